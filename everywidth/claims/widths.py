"""At which widths a claim holds for all words and for some, and the first words for which it does not or does."""

from everywidth.machines.firsts import first_words
from everywidth.machines.least import least
from everywidth.machines.made import claim_machine
from everywidth.sums.texts import names_of


def for_all(claim):
    """At which widths a claim holds for all words: (tail, ring)."""
    told = widths_with(claim, False)
    return (turned(told[0]), turned(told[1]))


def for_some(claim):
    """At which widths a claim holds for some words: (tail, ring)."""
    return widths_with(claim, True)


def failing(claim, width):
    """The first words at the width for which a claim does not hold, or NoWords."""
    return first_words(least_of_claim(claim), width, False)


def holding(claim, width):
    """The first words at the width for which a claim holds, or NoWords."""
    return first_words(least_of_claim(claim), width, True)


def least_of_claim(claim):
    """The least machine of a claim, of all its names."""
    return least(claim_machine(claim, names_of(claim)))


def turned(truths):
    """Each truth turned."""
    return tuple([not truth for truth in truths])


def widths_with(claim, wanted):
    """At which widths the wanted truth comes to be told of a claim for some words: (tail, ring)."""
    machine = least_of_claim(claim)
    steps = machine[2]
    telling = [wanted in row for row in machine[3]]
    states = (machine[1],)
    places = {}
    truths = []
    # The states that the words of a width may lead to go round as soon as they are all the same as at a width ahead.
    while states not in places:
        places[states] = len(truths)
        truths.append(any([telling[state] for state in states]))
        states = all_next(states, steps)
    return shortest(truths[:places[states]], truths[places[states]:])


def all_next(states, steps):
    """The states that one letter leads to from some states, sorted, each once."""
    reached = {}
    for state in states:
        for led_to in steps[state]:
            reached[led_to] = True
    return tuple(sorted(reached))


def shortest(tail, ring):
    """The same widths with the shortest ring, then the shortest tail: (tail, ring)."""
    length = ring_length(ring)
    kept = len(tail)
    # What the tail ends with may belong to the ring, which then begins so much earlier.
    while kept > 0 and tail[kept - 1] == ring[(kept - 1 - len(tail)) % length]:
        kept -= 1
    begin = (kept - len(tail)) % length
    return (tuple(tail[:kept]), tuple(ring[begin:length] + ring[:begin]))


def ring_length(ring):
    """The shortest length at which the ring goes round in itself."""
    length = 1
    # A length that does not part the ring evenly need not be looked at, as the rest would go round, too.
    while len(ring) % length > 0 or ring != ring[length:] + ring[:length]:
        length += 1
    return length
