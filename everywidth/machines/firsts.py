"""The first words, as tuples of them are compared, over which a machine of truths comes to a truth."""

from everywidth.bits import words_at
from everywidth.errors import NoWords
from everywidth.machines.runs import run, words_of


def first_words(machine, width, wanted):
    """The first words at the width at whose last letter the wanted truth comes out, a dict; or NoWords."""
    names = machine[0]
    all_letters = tuple(range(words_at(len(names))))
    letters = [all_letters for place in range(width)]
    for number in range(len(names)):
        letters = with_least_word(machine, letters, number, wanted)
    row = tuple([left[0] for left in letters])
    if run(machine, row)[-1] != wanted:
        raise NoWords(f"no words at width {width}")
    return words_of(names, row)


def with_least_word(machine, letters, number, wanted):
    """Of the letters for each place those left where the name of this number has the least word that goes."""
    layers = layers_led_to(machine, letters)
    left = []
    well = None
    # The last bit weighs most: so it is chosen first, among the states that can be come to at all.
    for place in range(len(letters) - 1, -1, -1):
        chosen = letters_with_bit(letters[place], number, 0)
        going = states_going_well(machine, layers[place], chosen, well, wanted)
        if len(going) == 0:
            chosen = letters_with_bit(letters[place], number, 1)
            going = states_going_well(machine, layers[place], chosen, well, wanted)
        left.append(chosen)
        well = going
    left.reverse()
    return left


def layers_led_to(machine, letters):
    """For each place the states in which the machine may be there, a dict of True."""
    steps = machine[2]
    layers = [{machine[1]: True}]
    for some in letters[:-1]:
        layer = {}
        for state in layers[-1]:
            for letter in some:
                layer[steps[state][letter]] = True
        layers.append(layer)
    return layers


def letters_with_bit(letters, number, bit):
    """Those of the letters in which the name of this number has the bit."""
    return tuple([letter for letter in letters if (letter >> number) & 1 == bit])


def states_going_well(machine, states, letters, well, wanted):
    """The states from which one of the letters goes well, a dict of True."""
    going = {}
    for state in states:
        if any([goes_well(machine, state, letter, well, wanted) for letter in letters]):
            going[state] = True
    return going


def goes_well(machine, state, letter, well, wanted):
    """Whether a letter leads to a state of those that go well; the last one, behind which there are none, to wanted."""
    if well is None:
        return machine[3][state][letter] == wanted
    return machine[2][state][letter] in well
