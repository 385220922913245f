"""Whether programs are faithful, and the papers that show it."""
