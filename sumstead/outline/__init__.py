"""Sides and outlines."""
