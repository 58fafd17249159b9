"""Rows of words, of sums and of claims, gone through part by part."""

from everywidth.errors import NoName
from everywidth.vocabulary import is_name, parts_of


def folded(words, told_of):
    """What is told of a row of words, where told_of(word, parts) tells it of a word by what is told of its parts."""
    stack = []
    # From the end on all parts of a word are done ahead of it, so that no part is too deep for a call.
    for word in reversed(words):
        parts = parts_taken(stack, word)
        stack.append(told_of(word, parts))
    return stack.pop()


def parts_taken(stack, word):
    """What is told of the parts of a word, the first part first, taken from the stack's end."""
    return [stack.pop() for part in range(parts_of(word))]


def refuse_lacking(words, values):
    """NoName for the first name in the row of words that is not in the dict."""
    for word in words:
        if isinstance(word, str) and is_name(word) and word not in values:
            raise NoName(word)


def part_end(words, begin):
    """The place behind the part that begins at a place of a row of words."""
    place = begin
    lacking = 1
    while lacking > 0:
        lacking += parts_of(words[place]) - 1
        place += 1
    return place


def paths_of(words):
    """For each place of a row of words the path to the part that begins there, a tuple of numbers of parts."""
    paths = []
    coming = [()]
    for word in words:
        path = coming.pop()
        paths.append(path)
        # What is put in last comes first: so the last part is put in ahead of the others.
        for number in range(parts_of(word) - 1, -1, -1):
            coming.append(path + (number,))
    return paths
