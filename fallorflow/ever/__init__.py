"""What goes on for ever: rings of calls, and plain counters."""
