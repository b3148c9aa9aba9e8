"""Loads of rows, and the way down to them."""
