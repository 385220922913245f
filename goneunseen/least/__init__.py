"""The fewest filters that make a program faithful, and the rules on which it rests."""
