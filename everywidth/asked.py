"""The parts of the desk's lines, read; each refused with NoAsk where it is none."""

from everywidth.bits import is_width, is_word
from everywidth.errors import NoAsk
from everywidth.sums.turns import is_rule
from everywidth.vocabulary import is_figures, is_name


def parts_asked(rest, many):
    """The parts of the rest of a line, so many."""
    parts = rest.split(" ")
    if len(parts) != many:
        raise NoAsk(f"not as many parts as asked for, {many}: {rest!r}")
    return parts


def name_asked(text):
    """A name."""
    if not is_name(text):
        raise NoAsk(f"no name: {text!r}")
    return text


def number_asked(text):
    """A whole number, in figures."""
    if not is_figures(text):
        raise NoAsk(f"no number: {text!r}")
    return int(text)


def width_asked(text):
    """A width that the desk takes."""
    width = number_asked(text)
    if not is_width(width):
        raise NoAsk(f"no width: {text!r}")
    return width


def values_asked(parts, width):
    """The words of names at the width, a dict, of names and numbers by turns."""
    if len(parts) % 2 != 0:
        raise NoAsk("a name without a number")
    values = {}
    for place in range(0, len(parts), 2):
        name = name_asked(parts[place])
        if name in values:
            raise NoAsk(f"a name twice: {name!r}")
        values[name] = word_asked(parts[place + 1], width)
    return values


def word_asked(text, width):
    """A word at the width."""
    word = number_asked(text)
    if not is_word(word, width):
        raise NoAsk(f"no word at width {width}: {text!r}")
    return word


def path_asked(text):
    """A path, its numbers parted by points; of none a dash."""
    if text == "-":
        return ()
    return tuple([number_asked(part) for part in text.split(".")])


def rule_asked(text):
    """The name of a rule."""
    if not is_rule(text):
        raise NoAsk(f"no rule: {text!r}")
    return text
