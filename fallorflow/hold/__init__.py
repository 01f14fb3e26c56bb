"""Rows that hold in each run, and what never opens by them."""
