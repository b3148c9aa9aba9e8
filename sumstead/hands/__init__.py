"""The line of commits, and sandboxes that stand on it."""
