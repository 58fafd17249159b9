"""Machines found state by state, from the begin on."""


def machine_found(names, begin, step_of):
    """The states led to from the begin, of whatever kind, and the machine of them: (states, machine).

    step_of(state) tells a pair of rows: for each letter the next state, and what comes out. States are numbered in
    the order in which they are come to, state by state and letter by letter.
    """
    states = [begin]
    numbers = {begin: 0}
    steps = []
    out = []
    while len(steps) < len(states):
        told = step_of(states[len(steps)])
        steps.append(tuple([state_number(state, states, numbers) for state in told[0]]))
        out.append(tuple(told[1]))
    return (states, (tuple(names), 0, tuple(steps), tuple(out)))


def state_number(state, states, numbers):
    """The number of a state; one that is new is put behind the states there are."""
    if state not in numbers:
        numbers[state] = len(states)
        states.append(state)
    return numbers[state]
