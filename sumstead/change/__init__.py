"""Edits of outlines."""
