"""Renamesteps: renaming declarations one at a time."""
