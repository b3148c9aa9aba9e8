"""Formulas, rules, cubes and their plain reading."""
