"""Cells as texts: rows of entries, and blocks of them."""
