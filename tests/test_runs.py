import random
import unittest

import reference
from everywidth.machines.runs import letters_of, run, words_of

# A machine of one name that tells the bit ahead of each, and at last one state to which nothing leads.
BIT_AHEAD = (("x",), 1, ((1, 0), (1, 0), (2, 2)), ((1, 1), (0, 0), (0, 1)))


class RunTest(unittest.TestCase):
    def test_what_comes_out_stands_in_a_row(self):
        self.assertEqual(run(BIT_AHEAD, (1, 0, 1, 1)), (0, 1, 0, 1))
        self.assertEqual(run(BIT_AHEAD, (0,)), (0,))
        self.assertIs(type(run(BIT_AHEAD, (1, 0))), tuple)

    def test_it_begins_at_the_begin(self):
        ahead = (("x",), 0) + BIT_AHEAD[2:]
        self.assertEqual(run(ahead, (1, 0, 1, 1)), (1, 1, 0, 1))
        self.assertEqual(run((("x",), 2) + BIT_AHEAD[2:], (1, 0, 1, 1)), (1, 0, 1, 1))

    def test_no_letters(self):
        self.assertEqual(run(BIT_AHEAD, ()), ())

    def test_out_hangs_on_the_letter_and_the_state(self):
        machine = (("x", "y"), 0, ((0, 1, 0, 1), (1, 0, 1, 0)), ((0, 1, 1, 0), (1, 0, 0, 1)))
        self.assertEqual(run(machine, (0, 1, 0, 2, 3, 3, 2)), (0, 1, 1, 0, 1, 0, 0))

    def test_truths_stay_truths(self):
        machine = (("x",), 0, ((0, 1), (0, 1)), ((False, True), (True, False)))
        row = run(machine, (1, 1, 0, 0))
        self.assertEqual(row, (True, False, True, False))
        self.assertEqual([type(told) for told in row], [bool] * 4)

    def test_no_names(self):
        machine = ((), 0, ((1,), (0,)), ((1,), (0,)))
        self.assertEqual(run(machine, (0,) * 5), (1, 0, 1, 0, 1))

    def test_sixty_letters_and_asked_again(self):
        letters = (1, 0, 0) * 20
        self.assertEqual(run(BIT_AHEAD, letters), (0,) + letters[:-1])
        self.assertEqual(run(BIT_AHEAD, letters), run(BIT_AHEAD, letters))


class LettersTest(unittest.TestCase):
    def test_plain_ones(self):
        self.assertEqual(letters_of(("x",), 4, {"x": 6}), (0, 1, 1, 0))
        self.assertEqual(letters_of(("x", "y"), 3, {"x": 1, "y": 4}), (1, 0, 2))
        self.assertEqual(letters_of(("x", "y"), 3, {"y": 1, "x": 4}), (2, 0, 1))
        self.assertEqual(letters_of(("a", "b", "c"), 2, {"a": 3, "b": 2, "c": 1}), (5, 3))
        self.assertEqual(letters_of(("a", "b", "c"), 1, {"a": 1, "b": 1, "c": 1}), (7,))
        self.assertEqual(letters_of(("x",), 60, {"x": 2**59}), (0,) * 59 + (1,))

    def test_kinds(self):
        letters = letters_of(("x", "y"), 3, {"x": 1, "y": 4})
        self.assertIs(type(letters), tuple)
        self.assertEqual([type(letter) for letter in letters], [int] * 3)

    def test_no_names(self):
        for width in (1, 2, 7, 60):
            self.assertEqual(letters_of((), width, {}), (0,) * width)
            self.assertEqual(letters_of((), width, {"x": 1}), (0,) * width)

    def test_dicts_with_names_more(self):
        values = {"z": 7, "y": 4, "a": 5, "x": 1}
        self.assertEqual(letters_of(("x", "y"), 3, values), (1, 0, 2))
        self.assertEqual(list(values.items()), [("z", 7), ("y", 4), ("a", 5), ("x", 1)])


class WordsTest(unittest.TestCase):
    def test_plain_ones(self):
        self.assertEqual(words_of(("x",), (0, 1, 1, 0)), {"x": 6})
        self.assertEqual(words_of(("x", "y"), (1, 0, 2)), {"x": 1, "y": 4})
        self.assertEqual(words_of(("a", "b", "c"), (5, 3)), {"a": 3, "b": 2, "c": 1})

    def test_kinds(self):
        words = words_of(("x", "y"), (1, 0, 2))
        self.assertIs(type(words), dict)
        self.assertEqual([type(word) for word in words.values()], [int] * 2)

    def test_no_letters(self):
        self.assertEqual(words_of(("x",), ()), {"x": 0})
        self.assertEqual(words_of(("x", "y", "z"), ()), {"x": 0, "y": 0, "z": 0})

    def test_no_names(self):
        self.assertEqual(words_of((), (0, 0, 0)), {})
        self.assertEqual(words_of((), ()), {})

    def test_what_is_told_is_the_askers_own(self):
        first = words_of(("x", "y"), (1, 0, 2))
        second = words_of(("x", "y"), (1, 0, 2))
        first["x"] = 99
        first["z"] = 1
        self.assertEqual(second, {"x": 1, "y": 4})
        self.assertEqual(words_of(("x", "y"), (1, 0, 2)), {"x": 1, "y": 4})


class AgainstEachOtherTest(unittest.TestCase):
    def test_words_to_letters_and_back(self):
        for names in ((), ("x",), ("x", "y"), ("a", "b", "c")):
            for width in (1, 2, 3, 17, 60):
                for values in reference.choices(names, width, reference.edge_words(width)):
                    letters = letters_of(names, width, values)
                    self.assertEqual(len(letters), width)
                    self.assertEqual(words_of(names, letters), values)
                    self.assertEqual(letters_of(names, width, {**values, "more": 1}), letters)

    def test_letters_to_words_and_back(self):
        chance = random.Random(11)
        for names in ((), ("x",), ("x", "y"), ("a", "b", "c")):
            for width in (1, 2, 3, 17, 60):
                for _ in range(20):
                    letters = tuple(chance.randrange(2 ** len(names)) for _ in range(width))
                    self.assertEqual(letters_of(names, width, words_of(names, letters)), letters)


if __name__ == "__main__":
    unittest.main()
