"""Joinmarks: rows whose names are written once, joined where ways meet, and turned back."""
