"""Code of formulas, and a machine that runs it."""
