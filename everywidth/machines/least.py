"""The least machine that tells the same as a machine."""

from everywidth.machines.found import machine_found


def least(machine):
    """The least machine, its states numbered in the order in which they are come to from the begin."""
    found = machine_found(machine[0], machine[1], lambda state: (machine[2][state], machine[3][state]))[1]
    steps = found[2]
    out = found[3]
    classes = alike_classes(steps, out)
    # Alike states lead to alike ones: so the first of each class are come to in the order of the least one's states.
    firsts = firsts_of(classes)
    least_steps = [classes_of(steps[state], classes) for state in firsts]
    least_out = [out[state] for state in firsts]
    return (found[0], 0, tuple(least_steps), tuple(least_out))


def alike_classes(steps, out):
    """The class of each state, a list: alike states have the same; classes are numbered in the order of the states."""
    classes = numbered(out)
    many = 0
    # Each round parts what one letter more parts, until nothing new is parted.
    while max(classes) + 1 > many:
        many = max(classes) + 1
        classes = numbered([(mark, classes_of(row, classes)) for mark, row in zip(classes, steps)])
    return classes


def numbered(marks):
    """The number of each mark, a list: like ones have the same; they are numbered in the order in which they come."""
    numbers = {}
    return [numbers.setdefault(mark, len(numbers)) for mark in marks]


def classes_of(states, classes):
    """The classes of a row of states."""
    return tuple([classes[state] for state in states])


def firsts_of(classes):
    """The first state of each class, in the order of the classes."""
    firsts = []
    for state, number in enumerate(classes):
        if number == len(firsts):
            firsts.append(state)
    return firsts
