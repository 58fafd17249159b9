import random
import unittest

import reference
from everywidth.errors import NoName, WidthError
from everywidth.sums.texts import names_of, read_sum
from everywidth.sums.worths import worth

# At width 3: the sum, the words of x, y, z, the worth.
PLAIN = (
    ("x", (5, 0, 0), 5),
    ("0", (0, 0, 0), 0),
    ("7", (0, 0, 0), 7),
    ("8", (0, 0, 0), 0),
    ("999", (0, 0, 0), 7),
    ("not x", (5, 0, 0), 2),
    ("not x", (0, 0, 0), 7),
    ("neg x", (5, 0, 0), 3),
    ("neg x", (0, 0, 0), 0),
    ("neg x", (4, 0, 0), 4),
    ("neg x", (1, 0, 0), 7),
    ("twice x", (3, 0, 0), 6),
    ("twice x", (4, 0, 0), 0),
    ("twice x", (7, 0, 0), 6),
    ("low x", (0, 0, 0), 0),
    ("low x", (6, 0, 0), 2),
    ("low x", (4, 0, 0), 4),
    ("low x", (7, 0, 0), 1),
    ("and x y", (6, 3, 0), 2),
    ("or x y", (4, 1, 0), 5),
    ("odd x y", (6, 3, 0), 5),
    ("add x y", (6, 3, 0), 1),
    ("add x y", (2, 3, 0), 5),
    ("sub x y", (6, 3, 0), 3),
    ("sub x y", (3, 6, 0), 5),
    ("sub x y", (0, 1, 0), 7),
    ("pick x y z", (6, 5, 3), 5),
    ("pick x y z", (1, 6, 1), 0),
    ("pick x y z", (0, 6, 1), 1),
    ("pick x y z", (7, 6, 1), 6),
    ("sub sub x y z", (1, 2, 3), 4),
    ("sub x sub y z", (1, 2, 3), 2),
    ("add x 999", (1, 0, 0), 0),
    ("not not x", (5, 0, 0), 5),
    ("low neg twice x", (3, 0, 0), 2),
)


class WorthTest(unittest.TestCase):
    def test_plain_ones(self):
        for text, words, expected in PLAIN:
            with self.subTest(text=text, words=words):
                self.assertEqual(worth(read_sum(text), 3, dict(zip("xyz", words))), expected)

    def test_each_word_at_many_widths_by_edges(self):
        for width in reference.WIDTHS:
            some = reference.edge_words(width)
            for word, parts in reference.SUM_PARTS.items():
                names = ("x", "y", "z")[:parts]
                for values in reference.choices(names, width, some):
                    told = worth((word,) + names, width, values)
                    self.assertIs(type(told), int)
                    self.assertEqual(told, reference.told((word,) + names, width, values), (word, width, values))

    def test_each_word_by_all_words_of_small_widths(self):
        for width in (1, 2, 3):
            for word, parts in reference.SUM_PARTS.items():
                names = ("x", "y", "z")[:parts]
                for values in reference.choices(names, width, range(2**width)):
                    told = worth((word,) + names, width, values)
                    self.assertEqual(told, reference.told((word,) + names, width, values), (word, width, values))

    def test_names_and_numbers_at_every_width(self):
        for width in range(1, 61):
            for word in reference.edge_words(width):
                self.assertEqual(worth(("x",), width, {"x": word}), word)
            for number in (0, 1, 2, 3, 511, 512, 999):
                self.assertEqual(worth((number,), width, {}), number % 2**width)

    def test_edges_in_figures(self):
        for width in range(1, 61):
            half, greatest = 2 ** (width - 1), 2**width - 1
            values = {"h": half, "g": greatest, "o": 1, "n": 0}
            expected = (
                ("not n", greatest), ("not g", 0), ("neg n", 0), ("neg h", half), ("neg g", 1), ("neg o", greatest),
                ("twice h", 0), ("twice g", greatest - 1), ("low n", 0), ("low h", half), ("low g", 1),
                ("add g o", 0), ("add g g", greatest - 1), ("add h h", 0), ("sub n o", greatest), ("sub n n", 0),
                ("sub h g", half + 1), ("odd g g", 0), ("and g h", half), ("or h n", half),
                ("pick g h o", half), ("pick n h o", 1), ("pick h n g", half - 1),
            )
            for text, told in expected:
                self.assertEqual(worth(read_sum(text), width, values), told % 2**width, (text, width))

    def test_sums_by_chance(self):
        chance = random.Random(6)
        for words in reference.gathered(chance, reference.some_sum, ("x", "y", "z"), 4, 24, 300):
            for width in (1, 2, 7, 33, 60):
                values = {name: chance.randrange(2**width) for name in ("x", "y", "z")}
                self.assertEqual(worth(words, width, values), reference.told(words, width, values), (words, values))

    def test_long_and_deep_sums(self):
        for depth in (23, 60, 1500):
            self.assertEqual(worth(("not",) * depth + ("x",), 5, {"x": 9}), 9 if depth % 2 == 0 else 22)
            self.assertEqual(worth(("add", "x") * depth + (0,), 9, {"x": 3}), 3 * depth % 512)
            self.assertEqual(worth(("sub",) * depth + ("x",) + (1,) * depth, 9, {"x": 3}), (3 - depth) % 512)


class NamesTest(unittest.TestCase):
    def assert_lacks(self, text, values, name):
        with self.assertRaises(NoName, msg=text) as caught:
            worth(read_sum(text), 4, values)
        self.assertEqual(caught.exception.word, name)
        self.assertIsInstance(caught.exception, WidthError)

    def test_the_first_in_the_words_order(self):
        self.assert_lacks("x", {}, "x")
        self.assert_lacks("add z x", {}, "z")
        self.assert_lacks("add z x", {"z": 1}, "x")
        self.assert_lacks("add add c b a", {}, "c")
        self.assert_lacks("add add c b a", {"c": 1}, "b")
        self.assert_lacks("add add c b a", {"c": 1, "a": 1}, "b")
        self.assert_lacks("pick c a b", {"a": 1, "b": 0}, "c")
        self.assert_lacks("pick c b a", {"c": 1}, "b")
        self.assert_lacks("not abcdefgh", {"abcdefg": 1}, "abcdefgh")

    def test_also_where_the_part_does_not_matter(self):
        self.assert_lacks("and 0 x", {}, "x")
        self.assert_lacks("and x 0", {}, "x")
        self.assert_lacks("or not 0 x", {}, "x")
        self.assert_lacks("sub x x", {"y": 1}, "x")
        self.assert_lacks("pick 0 x y", {"y": 3}, "x")
        self.assert_lacks("pick not 0 y x", {"y": 3}, "x")
        self.assert_lacks("odd add y x add y x", {"y": 3}, "x")
        self.assert_lacks("twice twice twice twice x", {}, "x")

    def test_each_lacking_one_of_every_order(self):
        for first, second, third in (("a", "b", "c"), ("c", "b", "a"), ("b", "c", "a"), ("b", "a", "c")):
            text = f"pick {first} add {second} 1 low {third}"
            self.assert_lacks(text, {}, first)
            self.assert_lacks(text, {first: 2}, second)
            self.assert_lacks(text, {third: 2}, first)
            self.assert_lacks(text, {first: 2, third: 2}, second)
            self.assert_lacks(text, {first: 2, second: 2}, third)

    def test_other_names_too(self):
        values = {"y": 3, "x": 5, "zz": 15, "adder": 0}
        self.assertEqual(worth(read_sum("add x 1"), 4, values), 6)
        self.assertEqual(worth(read_sum("12"), 4, values), 12)
        self.assertEqual(values, {"y": 3, "x": 5, "zz": 15, "adder": 0})

    def test_no_names(self):
        self.assertEqual(worth(read_sum("add 12 7"), 4, {}), 3)
        self.assertEqual(worth(read_sum("neg 1"), 60, {}), 2**60 - 1)


class HandedInTest(unittest.TestCase):
    def test_the_dict_is_not_changed(self):
        values = {"y": 6, "x": 3, "w": 1}
        self.assertEqual(worth(read_sum("sub x y"), 3, values), 5)
        self.assertEqual(list(values.items()), [("y", 6), ("x", 3), ("w", 1)])
        with self.assertRaises(NoName):
            worth(read_sum("add x q"), 3, values)
        self.assertEqual(list(values.items()), [("y", 6), ("x", 3), ("w", 1)])

    def test_asked_again(self):
        words = read_sum("pick x add y 1 low sub x y")
        values = {"x": 5, "y": 6}
        first = worth(words, 3, values)
        values["x"] = 0
        self.assertEqual(worth(words, 3, values), reference.told(words, 3, values))
        values["x"] = 5
        self.assertEqual(worth(words, 3, values), first)
        self.assertEqual(names_of(words), ("x", "y"))


if __name__ == "__main__":
    unittest.main()
