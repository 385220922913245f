"""What is asked of a base."""
