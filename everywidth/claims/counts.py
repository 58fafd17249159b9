"""For how many choices of words a claim holds, at a width and by one rule at every width."""

from everywidth.claims.widths import least_of_claim


def count(claim, width):
    """For how many choices of words of all its names a claim holds at the width."""
    return counts_to(least_of_claim(claim), width)[width - 1]


def rule(claim):
    """The rule with the fewest terms by which the counts of a claim go: (firsts, terms)."""
    machine = least_of_claim(claim)
    # The counts go by some rule with no more terms than there are states; twice as many counts leave just one.
    counts = counts_to(machine, 2 * len(machine[2]))
    terms = fewest_terms(counts)
    return (tuple(counts[:len(terms)]), terms)


def rule_shown(claim, rule):
    """Whether all counts of a claim, at all widths, go by a rule."""
    machine = least_of_claim(claim)
    firsts = list(rule[0])
    terms = list(rule[1])
    # What goes by it at as many widths behind firsts as there are states goes by it always.
    counts = counts_to(machine, len(terms) + len(machine[2]))
    if firsts != counts[:len(terms)]:
        return False
    return all([counts[place] == told_by(terms, counts, place) for place in range(len(terms), len(counts))])


def told_by(terms, counts, place):
    """The count at a place of the row, as the terms tell it by those ahead of it."""
    return sum([term * counts[place - 1 - back] for back, term in enumerate(terms)])


def counts_to(machine, many):
    """The row of the counts of a machine of truths, for so many widths from 1 on."""
    ways = {machine[1]: 1}
    holding_letters = [row.count(True) for row in machine[3]]
    counts = []
    for width in range(many):
        counts.append(sum([times * holding_letters[state] for state, times in ways.items()]))
        ways = ways_onward(ways, machine[2])
    return counts


def ways_onward(ways, steps):
    """In how many ways each state is come to with one letter more, a dict."""
    onward = {}
    for state, times in ways.items():
        for led_to in steps[state]:
            onward[led_to] = onward.get(led_to, 0) + times
    return onward


def fewest_terms(row):
    """The fewest terms by which a row of whole numbers goes, a tuple.

    Each number and those ahead of it, times the weights, come to 0 as far as the row is looked at. Where they do not,
    the weights are mended by older ones, which were off so much ahead (as Berlekamp and Massey tell it).
    """
    weights = [1]
    older = [1]
    older_off = 1
    behind = 1
    for place in range(len(row)):
        off = weighed(weights, row, place)
        if off != 0:
            mended = mended_weights(weights, off, older, older_off, behind)
            # Weights that grew are those to mend by from here on: so there are never more than it needs.
            if len(mended) > len(weights):
                older = weights
                older_off = off
                behind = 0
            weights = mended
        behind += 1
    # Rows of counts go by whole numbers: so the first of weights that have nothing in common is 1 or -1.
    return tuple([-weight // weights[0] for weight in weights[1:]])


def weighed(weights, row, place):
    """What the weights come to at a place of the row."""
    return sum([weight * row[place - back] for back, weight in enumerate(weights)])


def mended_weights(weights, off, older, older_off, behind):
    """Weights that come to 0 where these are off, by older ones so much behind."""
    mended = [older_off * weight for weight in weights]
    mended = mended + [0] * (behind + len(older) - len(mended))
    for place, weight in enumerate(older):
        mended[behind + place] -= off * weight
    return lessened(mended)


def lessened(weights):
    """The weights without what all of them have in common, so that they do not grow without need."""
    common = 0
    for weight in weights:
        common = greatest_in_both(common, weight)
    return [weight // common for weight in weights]


def greatest_in_both(one, other):
    """The greatest number that both numbers are made of."""
    while other != 0:
        rest = one % other
        one = other
        other = rest
    return abs(one)
