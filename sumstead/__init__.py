"""Sumstead: a store of cubes in which every road tells what the plain reading tells."""
