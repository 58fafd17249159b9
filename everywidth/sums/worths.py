"""The worth of a sum at a width, by words of its names."""

from everywidth.bits import words_at
from everywidth.rows import folded, refuse_lacking


def worth(words, width, values):
    """The worth of a sum, a word at the width, or NoName."""
    refuse_lacking(words, values)
    many = words_at(width)
    return folded(words, lambda word, parts: word_worth(word, parts, values) % many)


def word_worth(word, parts, values):
    """What a word of a sum makes of the worths of its parts, not yet brought to a width."""
    if isinstance(word, int):
        return word
    if len(parts) == 0:
        return values[word]
    if len(parts) == 1:
        return worth_of_one(word, parts[0])
    if len(parts) == 2:
        return worth_of_two(word, parts[0], parts[1])
    return (parts[0] & parts[1]) | (~parts[0] & parts[2])


def worth_of_one(word, part):
    """The worth of a word with one part."""
    if word == "not":
        return ~part
    if word == "neg":
        return -part
    if word == "twice":
        return part + part
    return part & -part


def worth_of_two(word, one, other):
    """The worth of a word with two parts."""
    if word == "and":
        return one & other
    if word == "or":
        return one | other
    if word == "odd":
        return one ^ other
    if word == "add":
        return one + other
    return one - other
