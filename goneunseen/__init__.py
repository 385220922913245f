"""Which places of a query have to say that they mean living rows only."""
