"""Machines run over rows of letters; the letters of words and the words of letters."""

from everywidth.bits import bits_of, number_of


def run(machine, letters):
    """The row of all that comes out of a machine over a row of letters."""
    state = machine[1]
    steps = machine[2]
    out = machine[3]
    row = []
    for letter in letters:
        row.append(out[state][letter])
        state = steps[state][letter]
    return tuple(row)


def letters_of(names, width, values):
    """The row of letters of the names' words at the width."""
    rows = [bits_of(values[name], width) for name in names]
    return tuple([letter_at(place, rows) for place in range(width)])


def letter_at(place, rows):
    """The letter of the bits that stand at a place of the rows."""
    return number_of(tuple([row[place] for row in rows]))


def words_of(names, letters):
    """The words of the names by a row of letters, a dict."""
    words = {}
    for place, name in enumerate(names):
        words[name] = number_of(tuple([(letter >> place) & 1 for letter in letters]))
    return words
