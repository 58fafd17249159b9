"""Everywidth: sums of words, at every width at once."""
