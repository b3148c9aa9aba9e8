"""A cube in several parts."""
