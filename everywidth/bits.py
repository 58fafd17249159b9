"""Words of bits: whole numbers at a width, and their rows of bits, the least first."""

GREATEST_WIDTH = 60


def is_width(number):
    """Whether a number is a width that papers and lines may tell."""
    return 1 <= number <= GREATEST_WIDTH


def words_at(width):
    """How many words there are at the width."""
    many = 1
    for bit_number in range(width):
        many = many * 2
    return many


def is_word(number, width):
    """Whether a number is a word at the width as it stands."""
    return 0 <= number < words_at(width)


def cut(number, width):
    """The number brought to the width."""
    return number % words_at(width)


def bits_of(number, width):
    """The row of the bits of a number at the width."""
    rest = cut(number, width)
    bits = []
    for bit_number in range(width):
        bits.append(rest % 2)
        rest = rest // 2
    return tuple(bits)


def number_of(bits):
    """The number whose row of bits this is."""
    number = 0
    for bit in reversed(bits):
        number = number * 2 + bit
    return number


def last_bit(word, width):
    """The sign of a word at the width."""
    return bits_of(word, width)[width - 1]
