"""Worths, names and integers."""
