"""Sums turned otherwise, step by step, with the same worth at every width."""

from everywidth.errors import NoTurning
from everywidth.rows import part_end, paths_of
from everywidth.vocabulary import is_name

# Each rule with a form, in which a name stands for any part, and what that is turned to. Of the forms of one rule at
# most one fits a part. The order is that in which steps are told.
TURNINGS = (
    ("addboth", ("add", "x", "y"), ("add", "y", "x")),
    ("addboth", ("and", "x", "y"), ("and", "y", "x")),
    ("addboth", ("or", "x", "y"), ("or", "y", "x")),
    ("addboth", ("odd", "x", "y"), ("odd", "y", "x")),
    ("addthree", ("add", "add", "x", "y", "z"), ("add", "x", "add", "y", "z")),
    ("addthree", ("and", "and", "x", "y", "z"), ("and", "x", "and", "y", "z")),
    ("addthree", ("or", "or", "x", "y", "z"), ("or", "x", "or", "y", "z")),
    ("addthree", ("odd", "odd", "x", "y", "z"), ("odd", "x", "odd", "y", "z")),
    ("subneg", ("sub", "x", "y"), ("add", "x", "neg", "y")),
    ("negnot", ("neg", "x"), ("add", "not", "x", 1)),
    ("twiceadd", ("twice", "x"), ("add", "x", "x")),
    ("notnot", ("not", "not", "x"), ("x",)),
    ("notand", ("not", "and", "x", "y"), ("or", "not", "x", "not", "y")),
    ("notor", ("not", "or", "x", "y"), ("and", "not", "x", "not", "y")),
    ("oddor", ("odd", "x", "y"), ("and", "or", "x", "y", "not", "and", "x", "y")),
    ("orsum", ("add", "x", "y"), ("add", "or", "x", "y", "and", "x", "y")),
    ("oddsum", ("add", "x", "y"), ("add", "odd", "x", "y", "twice", "and", "x", "y")),
    ("lowneg", ("low", "x"), ("and", "x", "neg", "x")),
    ("pickor", ("pick", "x", "y", "z"), ("or", "and", "x", "y", "and", "not", "x", "z")),
    ("selfodd", ("odd", "x", "x"), (0,)),
    ("selfand", ("and", "x", "x"), ("x",)),
    ("selfand", ("or", "x", "x"), ("x",)),
    ("zeroadd", ("add", "x", 0), ("x",)),
    ("zeroadd", ("or", "x", 0), ("x",)),
    ("zeroadd", ("odd", "x", 0), ("x",)),
    ("zeroadd", ("sub", "x", 0), ("x",)),
)


def is_rule(text):
    """Whether the text is the name of a rule."""
    return text in [turning[0] for turning in TURNINGS]


def led(words, chain):
    """The sum to which a chain of steps leads, or NoTurning."""
    for step in chain:
        words = stepped_once(words, step[0], step[1])
    return words


def stepped_once(words, path, rule):
    """A sum with the part at the path turned by the rule, or NoTurning."""
    paths = paths_of(words)
    if path not in paths:
        raise NoTurning(f"no part there: {path!r}")
    begin = paths.index(path)
    end = part_end(words, begin)
    for turning in [turning for turning in TURNINGS if turning[0] == rule]:
        bound = parts_bound(turning[1], words[begin:end])
        if bound is not None:
            return words[:begin] + filled(turning[2], bound) + words[end:]
    raise NoTurning(f"the rule does not fit there: {rule!r}")


def steps(words):
    """The steps that fit a sum, in the order of their paths, then of the rules."""
    told = []
    # The paths of the places, from the first on, are in the order in which tuples are compared.
    for begin, path in enumerate(paths_of(words)):
        part = words[begin:part_end(words, begin)]
        told.extend([(path, turning[0]) for turning in TURNINGS if parts_bound(turning[1], part) is not None])
    return told


def parts_bound(form, words):
    """The part for which each name of a form stands in a sum, a dict; None where the form does not fit."""
    bound = {}
    place = 0
    for word in form:
        end = place + 1
        if is_part_name(word):
            end = part_end(words, place)
            if bound.setdefault(word, words[place:end]) != words[place:end]:
                return None
        elif words[place] != word:
            return None
        place = end
    return bound


def filled(form, bound):
    """The sum of a form, each name with the part for which it stands."""
    words = ()
    for word in form:
        words += bound[word] if is_part_name(word) else (word,)
    return words


def is_part_name(word):
    """Whether a word of a form stands for any part."""
    return isinstance(word, str) and is_name(word)
