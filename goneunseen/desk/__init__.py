"""A desk: a store that guards its programs, and keeps a journal."""
