"""Frozen rules, derivations, matches of one answer, and cores."""
