"""What small systems cost, just so."""
