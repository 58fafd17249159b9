"""Claims about sums of words."""
