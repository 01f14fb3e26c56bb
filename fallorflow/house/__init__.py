"""Edits of systems, reports, and a bench that keeps what is known."""
