"""Claims about sums of words: whether, at which widths and for how many words they hold."""
