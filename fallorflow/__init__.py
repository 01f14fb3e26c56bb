"""Fallorflow: does it end, at what cost, and what shows it."""
