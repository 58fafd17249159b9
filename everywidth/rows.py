"""Rows of words, of sums and of claims, gone through part by part."""

from everywidth.errors import NoName
from everywidth.vocabulary import is_name, parts_of


def folded(words, told_of):
    """What is told of a row of words, where told_of(word, parts) tells it of a word by what is told of its parts."""
    stack = []
    # From the end on all parts of a word are done ahead of it, so that no part is too deep for a call.
    for word in reversed(words):
        parts = parts_taken(stack, word)
        stack.append(told_of(word, parts))
    return stack.pop()


def parts_taken(stack, word):
    """What is told of the parts of a word, the first part first, taken from the stack's end."""
    return [stack.pop() for part in range(parts_of(word))]


def refuse_lacking(words, values):
    """NoName for the first name in the row of words that is not in the dict."""
    for word in words:
        if isinstance(word, str) and is_name(word) and word not in values:
            raise NoName(word)
