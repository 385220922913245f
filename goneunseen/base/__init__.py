"""Bases: the living and the gone rows of a scheme."""
