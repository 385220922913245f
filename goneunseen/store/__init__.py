"""The store, its histories, and how gone rows come back."""
