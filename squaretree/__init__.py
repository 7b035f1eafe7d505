"""Whole right-angled triangles without common divisor, each by one row of three steps."""
