"""Rules along a side of time."""
