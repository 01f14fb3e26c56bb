"""Bills for all that runs cost, and ranks that are shared out."""
