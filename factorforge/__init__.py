"""Factorforge: polynomials parted until nothing parts further, with papers that show it."""
