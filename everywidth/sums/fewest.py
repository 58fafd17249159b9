"""The sum of the fewest words with the same worth at every width, and papers that show it."""

from everywidth.bits import is_width, is_word
from everywidth.errors import NoShorter
from everywidth.machines.alike import compared, machines_compared
from everywidth.machines.least import least
from everywidth.machines.made import machine_of
from everywidth.sums.texts import names_of
from everywidth.sums.worths import worth
from everywidth.vocabulary import sum_words_with

LONGEST = 3


def fewest(words):
    """The sum of the fewest words, and a paper for it: (sum, paper); or NoShorter."""
    names = names_of(words)
    machine = least(machine_of(words, names))
    paper = []
    for short in short_sums(names):
        told = machines_compared(machine_of(short, names), machine)
        if told[0] == "same":
            return (short, tuple(paper))
        paper.append((short, told[1], told[2]))
    raise NoShorter(f"no sum of {LONGEST} words or fewer has this worth")


def short_sums(names):
    """All sums of few words over the names, 0 and 1, without pick: fewer words first, then as tuples of texts."""
    told = []
    for length in range(1, LONGEST + 1):
        told.extend(sorted(sums_of_length(names, length), key=texts_of))
    return told


def sums_of_length(names, length):
    """All sums of so many words over the names, 0 and 1, without pick."""
    if length == 1:
        return [(0,), (1,)] + [(name,) for name in names]
    told = []
    for word in sum_words_with(1):
        told.extend([(word,) + part for part in sums_of_length(names, length - 1)])
    for word in sum_words_with(2):
        told.extend(sums_of_two(word, names, length - 1))
    return told


def sums_of_two(word, names, length):
    """All sums of a word and two parts of so many words together."""
    told = []
    for first in range(1, length):
        for one in sums_of_length(names, first):
            told.extend([(word,) + one + other for other in sums_of_length(names, length - first)])
    return told


def texts_of(words):
    """The words of a sum as texts, numbers as their figures."""
    return tuple([str(word) for word in words])


def fewest_shown(words, told, paper):
    """Whether a told sum has the worth of a sum, and the paper shows that it is the one of the fewest words."""
    names = names_of(words)
    short = short_sums(names)
    if told not in short or compared(words, told)[0] != "same":
        return False
    ahead = short[:short.index(told)]
    if [row[0] for row in paper] != ahead:
        return False
    return all([row_shown(row, told, names) for row in paper])


def row_shown(row, told, names):
    """Whether the words of a paper's row, at its width, part its sum from the told one."""
    width = row[1]
    values = row[2]
    if not is_width(width) or tuple(sorted(values)) != names:
        return False
    if not all([is_word(values[name], width) for name in names]):
        return False
    return worth(row[0], width, values) != worth(told, width, values)
