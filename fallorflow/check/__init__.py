"""Claims, a checker that takes their papers, and whole answers."""
