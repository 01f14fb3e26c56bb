"""A small language whose programs are led to systems."""
