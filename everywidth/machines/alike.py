"""Whether two sums, or two machines, tell the same at every width."""

from everywidth.machines.firsts import first_words
from everywidth.machines.found import machine_found
from everywidth.machines.made import machine_of
from everywidth.sums.texts import names_of


def compared(one, other):
    """("same", paper) of two sums with the same worth at every width, else ("parted", width, words)."""
    names = names_of(one + other)
    return machines_compared(machine_of(one, names), machine_of(other, names))


def machines_compared(one, other):
    """As of two sums, of two machines of sums of the same names."""
    begins = (one[1], other[1])
    found = machine_found(one[0], begins, lambda pair: (next_pairs(one, other, pair), partings(one, other, pair)))
    width = least_width_of_truth(found[1])
    if width is None:
        return ("same", tuple(found[0]))
    return ("parted", width, first_words(found[1], width, True))


def next_pairs(one, other, pair):
    """The pairs of states that follow on a pair, for each letter."""
    return list(zip(one[2][pair[0]], other[2][pair[1]]))


def partings(one, other, pair):
    """Whether unlike bits come out of the states of a pair, for each letter."""
    return [bits[0] != bits[1] for bits in zip(one[3][pair[0]], other[3][pair[1]])]


def least_width_of_truth(machine):
    """The least width at which True may come out of a machine whose states are numbered as found; None where never."""
    widths = {machine[1]: 1}
    # States come in the order of their widths, so the first way to one is the shortest.
    for state, row in enumerate(machine[3]):
        if True in row:
            return widths[state]
        for led_to in machine[2][state]:
            widths.setdefault(led_to, widths[state] + 1)
    return None


def alike_shown(one, other, paper):
    """Whether a paper shows that two machines tell the same at every width."""
    if one[0] != other[0]:
        return False
    pairs = {}
    for pair in paper:
        pairs[pair] = True
    if (one[1], other[1]) not in pairs:
        return False
    return all([pair_shown(one, other, pair, pairs) for pair in pairs])


def pair_shown(one, other, pair, pairs):
    """Whether of a pair of a paper the same comes out for each letter, and the next pairs are in the paper."""
    # A number below nought would be taken for a state from the end on.
    if not (0 <= pair[0] < len(one[2]) and 0 <= pair[1] < len(other[2])):
        return False
    if True in partings(one, other, pair):
        return False
    return all([led_to in pairs for led_to in next_pairs(one, other, pair)])
