"""Questions for members."""
