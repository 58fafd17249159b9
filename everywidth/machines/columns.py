"""One step through the words of a sum or a claim, for all letters at once.

A column is a whole number: its bit with a letter's number is the bit that stands there where this letter is read. So
-1 has a 1 for each letter; bits with numbers that no letter has do not matter.
"""

from everywidth.bits import number_of
from everywidth.rows import parts_taken

REMEMBERING = ("neg", "twice", "low", "add", "sub", "same", "under", "beneath", "nought")


def remembers(word):
    """Whether a word keeps a bit from each step to the next: a carry, or what was seen; 0 at the begin."""
    return word in REMEMBERING


def name_columns(names, letters):
    """The column of each name, a dict."""
    columns = {}
    for place, name in enumerate(names):
        columns[name] = number_of(tuple([(letter >> place) & 1 for letter in letters]))
    return columns


def stepped(words, columns, place, kept):
    """A step at the bits of this place, with the bits kept: the column that comes out, and those kept from then on.

    Kept bits stand in the order of the words that keep them, from the row's end on.
    """
    stack = []
    later = []
    for word in reversed(words):
        parts = parts_taken(stack, word)
        if remembers(word):
            held = -kept[len(later)]
            later.append(kept_then(word, parts, held))
            stack.append(out_by_kept(word, parts, held, later[-1]))
        elif isinstance(word, int):
            stack.append(-((word >> place) & 1))
        elif word in columns:
            stack.append(columns[word])
        else:
            stack.append(out_at_once(word, parts))
    return (stack.pop(), later)


def kept_then(word, parts, held):
    """The column that a word keeps for the next step."""
    one = parts[0]
    if word == "twice":
        return one
    if word in ("neg", "low", "nought"):
        return one | held
    if word == "same":
        return (one ^ parts[1]) | held
    if word == "add":
        return (one & parts[1]) | (held & (one | parts[1]))
    return borrowed(one, parts[1], held)


def borrowed(one, other, held):
    """The column that is borrowed where other is taken from one: a 1 just where one is less as far as it is read."""
    return (~one & other) | (held & ~(one ^ other))


def out_by_kept(word, parts, held, then):
    """The column that comes out of a word that keeps held until this step, and then behind it."""
    if word in ("add", "sub"):
        return parts[0] ^ parts[1] ^ held
    if word == "neg":
        return parts[0] ^ held
    if word == "twice":
        return held
    if word == "low":
        return parts[0] & ~held
    if word in ("same", "nought"):
        return ~then
    if word == "under":
        return then
    # At the last bit the signs are compared, and there the one with a 1 is the less.
    return borrowed(parts[1], parts[0], held)


def out_at_once(word, parts):
    """The column that comes out of a word that keeps nothing."""
    if word == "yes":
        return -1
    if word == "sign":
        return parts[0]
    if word in ("not", "never"):
        return ~parts[0]
    if word in ("and", "both"):
        return parts[0] & parts[1]
    if word in ("or", "either"):
        return parts[0] | parts[1]
    if word == "odd":
        return parts[0] ^ parts[1]
    if word == "so":
        return ~parts[0] | parts[1]
    return (parts[0] & parts[1]) | (~parts[0] & parts[2])
