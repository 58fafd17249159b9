"""Sums read from texts and shown as texts, and the names in sums and claims."""

from everywidth.errors import NoSum
from everywidth.vocabulary import is_figures, is_name, is_sum_word, parts_of


def read_sum(text):
    """The sum that the text tells, or NoSum."""
    words = []
    lacking = 1
    # Sums still lacking are counted, as parts may stand deeper than calls may go.
    for part in text.split(" "):
        if lacking == 0:
            raise NoSum(f"more words than the sum has: {part!r}")
        word = sum_word_read(part)
        words.append(word)
        lacking = lacking - 1 + parts_of(word)
    if lacking > 0:
        raise NoSum(f"sums lacking at the end: {lacking}")
    return tuple(words)


def sum_word_read(part):
    """One word of a sum: numbers as whole numbers, all others as texts; or NoSum."""
    if is_figures(part):
        return int(part)
    if is_sum_word(part) or is_name(part):
        return part
    raise NoSum(f"no word of a sum: {part!r}")


def sum_shown(words):
    """The text of a sum."""
    return " ".join([str(word) for word in words])


def names_of(words):
    """The names in a sum or a claim, sorted, each once."""
    return tuple(sorted(set([word for word in words if isinstance(word, str) and is_name(word)])))
