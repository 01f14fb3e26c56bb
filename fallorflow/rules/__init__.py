"""Systems of functions and rules, and the plain machine that runs them."""
