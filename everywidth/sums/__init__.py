"""Sums of words: their texts."""
