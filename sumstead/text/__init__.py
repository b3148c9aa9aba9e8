"""Texts of formulas, rules, outlines and cells."""
