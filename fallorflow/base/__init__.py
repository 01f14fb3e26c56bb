"""Forms, and what is asked of numbers everywhere."""
