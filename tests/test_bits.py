import unittest

from everywidth.bits import bits_of, cut, last_bit, number_of

WIDTHS = tuple(range(1, 61))


def some_numbers(width):
    """Numbers small, great, below nought and near powers of 2."""
    numbers = list(range(-20, 21))
    for exponent in (1, 2, width - 1, width, width + 1, 2 * width, 64, 300):
        for beside in (-2, -1, 0, 1, 2):
            numbers.append(2**exponent + beside)
            numbers.append(-(2**exponent) + beside)
    numbers.extend([10**40 + 7, -(10**40) - 7, 3**200, -(3**200)])
    return numbers


class CutTest(unittest.TestCase):
    def test_plain_ones(self):
        self.assertEqual(cut(5, 3), 5)
        self.assertEqual(cut(8, 3), 0)
        self.assertEqual(cut(13, 3), 5)
        self.assertEqual(cut(-1, 3), 7)
        self.assertEqual(cut(-8, 3), 0)
        self.assertEqual(cut(-9, 3), 7)
        self.assertEqual(cut(0, 1), 0)
        self.assertEqual(cut(-1, 1), 1)
        self.assertEqual(cut(-1, 60), 2**60 - 1)
        self.assertEqual(cut(2**60, 60), 0)

    def test_it_is_the_word_that_differs_by_whole_rounds(self):
        for width in WIDTHS:
            for number in some_numbers(width):
                word = cut(number, width)
                self.assertIs(type(word), int)
                self.assertTrue(0 <= word <= 2**width - 1, (number, width))
                self.assertEqual((number - word) % 2**width, 0, (number, width))

    def test_words_stay(self):
        for width in range(1, 9):
            for word in range(2**width):
                self.assertEqual(cut(word, width), word)


class RowsTest(unittest.TestCase):
    def test_the_least_bit_comes_first(self):
        self.assertEqual(bits_of(1, 3), (1, 0, 0))
        self.assertEqual(bits_of(4, 3), (0, 0, 1))
        self.assertEqual(bits_of(6, 4), (0, 1, 1, 0))
        self.assertEqual(bits_of(0, 1), (0,))
        self.assertEqual(bits_of(-1, 1), (1,))
        self.assertEqual(bits_of(-2, 4), (0, 1, 1, 1))
        self.assertEqual(bits_of(9, 3), (1, 0, 0))
        self.assertEqual(bits_of(2**59, 60), (0,) * 59 + (1,))

    def test_rows_are_tuples_of_whole_numbers_as_long_as_the_width(self):
        for width in WIDTHS:
            for number in some_numbers(width):
                row = bits_of(number, width)
                self.assertIs(type(row), tuple)
                self.assertEqual([type(bit) for bit in row], [int] * width)
                self.assertEqual(row, tuple((number >> place) & 1 for place in range(width)), (number, width))

    def test_the_number_of_a_row(self):
        self.assertEqual(number_of((1, 0, 0)), 1)
        self.assertEqual(number_of((0, 0, 1)), 4)
        self.assertEqual(number_of((0, 1, 1, 0)), 6)
        self.assertEqual(number_of((0,)), 0)
        self.assertEqual(number_of((1,) * 60), 2**60 - 1)
        self.assertIs(type(number_of((1, 0, 1))), int)

    def test_the_number_of_the_empty_row(self):
        self.assertEqual(number_of(()), 0)
        self.assertIs(type(number_of(())), int)

    def test_a_number_and_back(self):
        for width in WIDTHS:
            for number in some_numbers(width):
                self.assertEqual(number_of(bits_of(number, width)), cut(number, width))

    def test_a_row_and_back(self):
        for width in range(1, 9):
            rows = [bits_of(word, width) for word in range(2**width)]
            self.assertEqual(len(set(rows)), 2**width)
            for row in rows:
                self.assertEqual(bits_of(number_of(row), width), row)


class LastBitTest(unittest.TestCase):
    def test_it_is_1_from_the_half_on(self):
        for width in range(1, 9):
            for word in range(2**width):
                expected = 1 if 2 * word >= 2**width else 0
                self.assertEqual(last_bit(word, width), expected, (word, width))

    def test_at_the_edges_of_every_width(self):
        for width in WIDTHS:
            half = 2 ** (width - 1)
            told = [last_bit(word, width) for word in (0, half - 1, half, 2 * half - 1)]
            self.assertEqual(told, [0, 0, 1, 1], width)
            self.assertEqual([type(bit) for bit in told], [int] * 4)

    def test_it_is_the_last_of_the_row(self):
        for width in WIDTHS:
            for number in some_numbers(width):
                word = cut(number, width)
                self.assertEqual(last_bit(word, width), bits_of(word, width)[-1])


class AskedAgainTest(unittest.TestCase):
    def test_the_same_is_answered_the_same(self):
        row = (1, 0, 1, 1)
        first = (cut(-77, 5), bits_of(-77, 5), number_of(row), last_bit(19, 5))
        cut(3, 60)
        bits_of(12345, 60)
        number_of((0, 0, 1))
        self.assertEqual((cut(-77, 5), bits_of(-77, 5), number_of(row), last_bit(19, 5)), first)
        self.assertEqual(row, (1, 0, 1, 1))


if __name__ == "__main__":
    unittest.main()
