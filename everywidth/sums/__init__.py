"""Sums of words: their texts and their worths."""
