"""Totals that are written at places, and spread downward."""
