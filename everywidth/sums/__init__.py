"""Sums of words: their texts and worths, how they are turned, and the fewest words of them."""
