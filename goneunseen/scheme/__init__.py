"""Names, tables and schemes."""
