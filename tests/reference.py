"""What the document says of sums and claims, written once more and in another way, for tests to compare with."""

SUM_PARTS = {
    "not": 1, "neg": 1, "twice": 1, "low": 1,
    "and": 2, "or": 2, "odd": 2, "add": 2, "sub": 2,
    "pick": 3,
}
SUMS_IN_CLAIM = {"same": 2, "under": 2, "beneath": 2, "sign": 1, "nought": 1}
CLAIMS_IN_CLAIM = {"both": 2, "either": 2, "so": 2, "never": 1, "yes": 0}
CARRYING = ("add", "sub", "neg", "twice", "low")
COMPARING = tuple(SUMS_IN_CLAIM)

WIDTHS = (1, 2, 3, 4, 5, 8, 13, 31, 32, 33, 59, 60)


def edge_words(width):
    """0, 1, the half, the greatest and words beside them, each once."""
    half = 2 ** (width - 1)
    words = {0, 1, 2, half - 1, half, half + 1, 2 * half - 2, 2 * half - 1}
    return sorted(word for word in words if 0 <= word < 2**width)


def choices(names, width, some):
    """All choices of words of the names out of some words, dicts."""
    told = [{}]
    for name in names:
        told = [{**values, name: word} for values in told for word in some]
    return told


def bitwise(width, rule, *words):
    """The word whose bits come by the rule from the bits of the words."""
    figures = [bin(word)[2:].zfill(width) for word in words]
    return int("".join(rule(*bits) for bits in zip(*figures)), 2)


def lowest(word):
    bit = 1
    while word and word % (2 * bit) == 0:
        bit *= 2
    return bit if word else 0


def worth_by(word, parts, width):
    many = 2**width
    if word == "not":
        return many - 1 - parts[0]
    if word == "neg":
        return (many - parts[0]) % many
    if word == "twice":
        return (parts[0] * 2) % many
    if word == "low":
        return lowest(parts[0])
    if word == "add":
        return (parts[0] + parts[1]) % many
    if word == "sub":
        return (parts[0] + many - parts[1]) % many
    rules = {
        "and": lambda a, b: "1" if a + b == "11" else "0",
        "or": lambda a, b: "0" if a + b == "00" else "1",
        "odd": lambda a, b: "1" if a != b else "0",
        "pick": lambda a, b, c: b if a == "1" else c,
    }
    return bitwise(width, rules[word], *parts)


def truth_by(word, parts, width):
    def as_signed(number):
        return number - 2**width if bin(number)[2:].zfill(width)[0] == "1" else number

    rules = {
        "same": lambda a, b: a == b,
        "under": lambda a, b: a < b,
        "beneath": lambda a, b: as_signed(a) < as_signed(b),
        "sign": lambda a: as_signed(a) < 0,
        "nought": lambda a: a == 0,
        "both": lambda a, b: (a, b) == (True, True),
        "either": lambda a, b: (a, b) != (False, False),
        "so": lambda a, b: (a, b) != (True, False),
        "never": lambda a: a is False,
        "yes": lambda: True,
    }
    return rules[word](*parts)


def told_from(words, begin, width, values):
    """What is told of the part that begins there, and the place behind it."""
    word = words[begin]
    place = begin + 1
    parts = []
    for _ in range(parts_of(word)):
        part, place = told_from(words, place, width, values)
        parts.append(part)
    if isinstance(word, int):
        return word % 2**width, place
    if word in SUM_PARTS:
        return worth_by(word, parts, width), place
    if word in SUMS_IN_CLAIM or word in CLAIMS_IN_CLAIM:
        return truth_by(word, parts, width), place
    return values[word], place


def told(words, width, values):
    """The worth of a sum, or whether a claim holds."""
    answer, place = told_from(words, 0, width, values)
    assert place == len(words), words
    return answer


def parts_of(word):
    for table in (SUM_PARTS, SUMS_IN_CLAIM, CLAIMS_IN_CLAIM):
        if word in table:
            return table[word]
    return 0


def claim_end(words, begin, kind):
    """The place behind the claim or the sum that begins there, or None where none does."""
    if begin is None or begin >= len(words):
        return None
    word = words[begin]
    if kind == "claim" and word not in SUMS_IN_CLAIM and word not in CLAIMS_IN_CLAIM:
        return None
    if kind == "sum" and (word in SUMS_IN_CLAIM or word in CLAIMS_IN_CLAIM):
        return None
    place = begin + 1
    for _ in range(parts_of(word)):
        place = claim_end(words, place, "claim" if word in CLAIMS_IN_CLAIM else "sum")
    return place


def some_sum(chance, names, depth):
    """A sum by chance, not deeper than told."""
    if depth == 0 or chance.random() < 0.2:
        if names and chance.random() < 0.75:
            return (chance.choice(names),)
        return (chance.choice((0, 1, 2, 3, 5, 12, 100, 512, 999)),)
    word = chance.choice(sorted(SUM_PARTS))
    row = (word,)
    for _ in range(SUM_PARTS[word]):
        row += some_sum(chance, names, depth - 1)
    return row


def some_claim(chance, names, depth):
    """A claim by chance, not deeper than told."""
    if depth > 0 and chance.random() < 0.6:
        word = chance.choice(sorted(CLAIMS_IN_CLAIM))
        row = (word,)
        for _ in range(CLAIMS_IN_CLAIM[word]):
            row += some_claim(chance, names, depth - 1)
        return row
    word = chance.choice(sorted(SUMS_IN_CLAIM))
    row = (word,)
    for _ in range(SUMS_IN_CLAIM[word]):
        row += some_sum(chance, names, 2)
    return row


def within_bounds(words, longest):
    carrying = sum(word in CARRYING for word in words)
    comparing = sum(word in COMPARING for word in words)
    return len(words) <= longest and carrying <= 5 and comparing <= 3


def gathered(chance, make, names, depth, longest, many):
    """So many rows made by chance that keep within the bounds."""
    rows = []
    while len(rows) < many:
        row = make(chance, names, depth)
        if within_bounds(row, longest):
            rows.append(row)
    return rows


def first_choice(names, width, fits):
    """The first choice of words of the names at the width that fits, or None; all words are gone through."""
    for values in choices(names, width, range(2**width)):
        if fits(values):
            return values
    return None


def drawn_machine(chance, names, many, kind):
    """A machine by chance of so many states, some of them alike, some perhaps led to by none."""
    letters = 2 ** len(names)
    led_to = [chance.randrange(many) for _ in range(chance.randrange(1, many + 1))]
    steps = [tuple(chance.choice(led_to) for _ in range(letters)) for _ in range(many)]
    rows = [tuple(kind(chance.randrange(2)) for _ in range(letters)) for _ in range(2)]
    out = [rows[chance.random() < 0.3] for _ in range(many)]
    for _ in range(many // 3):
        state, other = chance.randrange(many), chance.randrange(many)
        steps[state], out[state] = steps[other], out[other]
    return (names, chance.randrange(many), tuple(steps), tuple(out))


def states_come_to(machine):
    """The states led to from the begin, in the order of [11]: state by state, letter by letter."""
    order = [machine[1]]
    for state in order:
        order.extend(led for led in dict.fromkeys(machine[2][state]) if led not in order)
    return order


def unlike_pairs(machine):
    """All pairs of states that some row of letters parts."""
    _, _, steps, out = machine
    many = range(len(steps))
    unlike = {(one, other) for one in many for other in many if out[one] != out[other]}
    grown = True
    while grown:
        more = {
            (one, other) for one in many for other in many
            if (one, other) not in unlike and any(pair in unlike for pair in zip(steps[one], steps[other]))
        }
        unlike |= more
        grown = bool(more)
    return unlike
