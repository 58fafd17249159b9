"""Machines made of sums and of claims."""

from everywidth.bits import words_at
from everywidth.machines.columns import name_columns, remembers, stepped
from everywidth.machines.found import machine_found


def machine_of(words, names):
    """The machine of a sum, whose out is the row of its worth."""
    return machine_telling(words, names, (0, 1))


def claim_machine(claim, names):
    """The machine of a claim, whose out at the last letter is whether it holds."""
    return machine_telling(claim, names, (False, True))


def machine_telling(words, names, told):
    """The machine of a row of words, with told[0] and told[1] for the bits that come out."""
    letters = list(range(words_at(len(names))))
    columns = name_columns(names, letters)
    # Behind the last 1 of all numbers their bits are 0: from there on the place makes no other state.
    last_place = longest_number(words)

    def step_of(state):
        step = stepped(words, columns, state[0], state[1])
        place = min(state[0] + 1, last_place)
        reached = [(place, bits_at(step[1], letter)) for letter in letters]
        return (reached, [told[(step[0] >> letter) & 1] for letter in letters])

    begin = (0, tuple([0 for word in words if remembers(word)]))
    return machine_found(names, begin, step_of)[1]


def longest_number(words):
    """How many bits the longest number in the row of words has."""
    return max([word.bit_length() for word in words if isinstance(word, int)], default=0)


def bits_at(columns, letter):
    """The bits that stand in the columns for a letter."""
    return tuple([(column >> letter) & 1 for column in columns])
