"""Texts of values, columns, and a shell over a desk."""
