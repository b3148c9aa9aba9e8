"""What is kept of cubes, and what can be told by it."""
