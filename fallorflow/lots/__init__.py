"""Lots of rows: points and bars, sums, least values."""
