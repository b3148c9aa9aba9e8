"""What a viewer may see."""
