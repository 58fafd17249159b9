import itertools
import random
import unittest

import reference
from everywidth.errors import NoShorter
from everywidth.machines.alike import compared
from everywidth.machines.least import least
from everywidth.machines.made import machine_of
from everywidth.sums.fewest import fewest, fewest_shown
from everywidth.sums.texts import names_of, read_sum, sum_shown

WORDS = ("not", "neg", "twice", "low", "and", "or", "odd", "add", "sub")

FEWEST = (
    ("x", "x"),
    ("0", "0"),
    ("1", "1"),
    ("not not x", "x"),
    ("sub x x", "0"),
    ("odd add x y add y x", "0"),
    ("add x 0", "x"),
    ("or x and x y", "x"),
    ("sub 2 1", "1"),
    ("2", "twice 1"),
    ("neg 1", "neg 1"),
    ("not 0", "neg 1"),
    ("sub 0 2", "not 1"),
    ("sub 0 x", "neg x"),
    ("add not x 1", "neg x"),
    ("add x x", "twice x"),
    ("and x neg x", "low x"),
    ("sub x and x sub x 1", "low x"),
    ("add add x x add x x", "twice twice x"),
    ("4", "twice twice 1"),
    ("add or x y and x y", "add x y"),
    ("add y x", "add x y"),
    ("not add not x y", "sub x y"),
    ("not add not y x", "sub y x"),
    ("pick x y 0", "and x y"),
    ("pick x not y y", "odd x y"),
    ("or y x", "or x y"),
    ("sub x 1", "not neg x"),
    ("neg not x", "add 1 x"),
    ("add x 1", "add 1 x"),
    ("sub 1 x", "sub 1 x"),
    ("not low x", "not low x"),
    ("and x 1", "and 1 x"),
    ("twice low x", "low twice x"),
    ("low neg x", "low x"),
    ("neg twice x", "neg twice x"),
    ("sub 0 add x x", "neg twice x"),
    ("or zz or a zz", "or a zz"),
)

NONE = (
    "add x 2", "3", "5", "999", "add x add y 1", "pick x y not y", "and x not y", "add x twice y", "or x 512", "odd x 2",
    "twice twice twice x", "low add x y", "not and x y", "sub x sub y 1", "or 2 x",
)


def short_sums(names):
    """All sums of at most three words, in the order of [18]."""
    alphabet = names + (0, 1) + WORDS
    rows = []
    for length in (1, 2, 3):
        for row in itertools.product(alphabet, repeat=length):
            if reference.claim_end(row + ("yes",), 0, "sum") == length:
                rows.append(row)
    return sorted(rows, key=lambda row: (len(row), [str(word) for word in row]))


class FewestTest(unittest.TestCase):
    def assert_paper(self, words, told, paper):
        names = names_of(words)
        self.assertIs(type(paper), tuple)
        ahead = short_sums(names)
        self.assertEqual([row[0] for row in paper], ahead[:ahead.index(told)])
        for row in paper:
            self.assertEqual([type(row)] + [type(part) for part in row], [tuple, tuple, int, dict])
            short, width, values = row
            self.assertTrue(1 <= width <= 60)
            self.assertEqual(tuple(sorted(values)), names)
            self.assertTrue(all(type(word) is int and 0 <= word < 2**width for word in values.values()))
            self.assertNotEqual(reference.told(short, width, values), reference.told(told, width, values))
            self.assertNotEqual(reference.told(short, width, values), reference.told(words, width, values))
        self.assertEqual(len({id(row[2]) for row in paper}), len(paper))

    def assert_told(self, words, expected):
        answer = fewest(words)
        self.assertEqual([type(answer), len(answer), type(answer[0])], [tuple, 2, tuple])
        told, paper = answer
        self.assertEqual(told, expected, words)
        self.assert_paper(words, told, paper)
        self.assertIs(fewest_shown(words, told, paper), True)
        self.assertEqual(fewest(words), answer)

    def assert_refused(self, words):
        with self.assertRaises(NoShorter) as caught:
            fewest(words)
        self.assertIs(type(caught.exception), NoShorter)

    def test_told(self):
        for text, expected in FEWEST:
            self.assert_told(read_sum(text), read_sum(expected))

    def test_none_short_enough(self):
        for text in NONE:
            self.assert_refused(read_sum(text))

    def test_how_many_sums_there_are(self):
        for names, many in (((), 62), (("x",), 108), (("x", "y"), 164)):
            self.assertEqual(len(short_sums(names)), many)

    def test_every_short_sum(self):
        for names in ((), ("x",), ("ma", "z")):
            rows = [row for row in short_sums(names) if names_of(row) == names]
            machines = {}
            for row in short_sums(names):
                machines.setdefault(least(machine_of(row, names)), row)
            for row in rows:
                self.assert_told(row, machines[least(machine_of(row, names))])

    def test_names_among_the_words_of_the_order(self):
        # As texts the names stand between the words: a before and, zz behind all of them.
        self.assert_told(read_sum("or zz a"), read_sum("or a zz"))
        self.assert_told(read_sum("twice low a"), read_sum("low twice a"))
        self.assert_told(read_sum("and odd a a zz"), read_sum("0"))
        self.assert_told(read_sum("sub zz a"), read_sum("sub zz a"))
        self.assert_told(read_sum("or a or zz or a a"), read_sum("or a zz"))

    def test_drawn_sums_against_all_short_ones(self):
        chance = random.Random(61)
        refused = 0
        for names in ((), ("x",), ("a", "zz")):
            for words in reference.gathered(chance, reference.some_sum, names, 2, 24, 40):
                expected = None
                for short in short_sums(names_of(words)):
                    if compared(short, words)[0] == "same":
                        expected = short
                        break
                if expected is None:
                    refused += 1
                    self.assert_refused(words)
                else:
                    self.assert_told(words, expected)
        self.assertGreater(refused, 10)

    def test_at_the_greatest_bounds(self):
        words = read_sum("sub add add 999 x y sub 999 and 0 low y")
        self.assertTrue(reference.within_bounds(words, 24))
        self.assert_told(words, read_sum("add x y"))
        self.assert_refused(read_sum("low add twice sub add x 999 513 twice y"))

    def test_what_is_told_is_the_askers_own(self):
        words = read_sum("add x 0")
        kept = fewest(words)
        before = [(row[0], row[1], dict(row[2])) for row in kept[1]]
        for place, row in enumerate(kept[1]):
            row[2]["x"] = 77
            row[2]["more"] = 1
            self.assertEqual([(r[0], r[1], r[2]) for r in kept[1][place + 1:]], before[place + 1:])
        self.assertEqual([(row[0], row[1], row[2]) for row in fewest(words)[1]], before)


class FewestShownTest(unittest.TestCase):
    def setUp(self):
        self.words = read_sum("add or x y and x y")
        self.told, self.paper = fewest(self.words)
        self.assertEqual(sum_shown(self.told), "add x y")

    def assert_shown(self, truth, words, told, paper):
        self.assertIs(fewest_shown(words, told, paper), truth)

    def with_row(self, place, row):
        return self.paper[:place] + (row,) + self.paper[place + 1:]

    def test_the_paper_told(self):
        self.assert_shown(True, self.words, self.told, self.paper)

    def test_rows_left_out_twice_or_in_another_order(self):
        self.assertGreater(len(self.paper), 20)
        for place, row in enumerate(self.paper):
            self.assert_shown(False, self.words, self.told, self.paper[:place] + self.paper[place + 1:])
            self.assert_shown(False, self.words, self.told, self.paper[:place] + (row,) + self.paper[place:])
        for place in range(len(self.paper) - 1):
            other = self.paper[:place] + self.paper[place:place + 2][::-1] + self.paper[place + 2:]
            self.assert_shown(False, self.words, self.told, other)
        self.assert_shown(False, self.words, self.told, ())
        self.assert_shown(False, self.words, self.told, self.paper[::-1])
        self.assert_shown(False, self.words, self.told, self.paper + self.paper)

    def test_rows_of_other_sums(self):
        for place, (short, width, values) in enumerate(self.paper):
            for other in (("not",) + short, ("twice", "x"), (2,), ("neg", "y"), ("pick", "x", "y", "x")):
                if other != short:
                    self.assert_shown(False, self.words, self.told, self.with_row(place, (other, width, values)))
        more = (("and", "y", "y"), 2, {"x": 1, "y": 1})
        self.assert_shown(False, self.words, self.told, self.paper + (more,))
        more = (("add", "x", "y"), 2, {"x": 1, "y": 1})
        self.assert_shown(False, self.words, self.told, self.paper + (more,))

    def test_rows_with_other_widths(self):
        for place, (short, width, values) in enumerate(self.paper):
            for other in (0, -1, 61, -60, 10**30):
                self.assert_shown(False, self.words, self.told, self.with_row(place, (short, other, values)))

    def test_rows_with_other_words_that_part_as_well(self):
        other = self.with_row(0, ((0,), 60, {"x": 2**60 - 1, "y": 0}))
        self.assert_shown(True, self.words, self.told, other)
        other = self.with_row(0, ((0,), 1, {"y": 0, "x": 1}))
        self.assert_shown(True, self.words, self.told, other)

    def test_rows_with_words_that_are_none_or_do_not_part(self):
        for values in (
            {"x": 2, "y": 1}, {"x": 1, "y": 2}, {"x": -1, "y": 0}, {"x": 0, "y": -1}, {"x": 2**60, "y": 1},
            {"x": 3, "y": 0}, {"x": -1, "y": -2},
            {"x": 0, "y": 0}, {"x": 1, "y": 1},
            {"x": 1}, {"y": 1}, {}, {"x": 1, "y": 0, "z": 0}, {"x": 1, "z": 0}, {"x": 1, "y": 0, "yy": 0},
        ):
            self.assert_shown(False, self.words, self.told, self.with_row(0, ((0,), 1, values)))
        self.assert_shown(True, self.words, self.told, self.with_row(0, ((0,), 1, {"x": 0, "y": 1})))
        self.assert_shown(True, self.words, self.told, self.with_row(0, ((0,), 2, {"x": 2, "y": 1})))
        self.assert_shown(False, self.words, self.told, self.with_row(0, ((0,), 2, {"x": 2, "y": 4})))
        self.assert_shown(False, self.words, self.told, self.with_row(0, ((0,), 2, {"x": 3, "y": 1})))

    def test_each_row_is_looked_at(self):
        for place, (short, _, _) in enumerate(self.paper):
            for width, values in ((60, {"x": 0, "y": 0}), (3, {"x": 6, "y": 1}), (2, {"x": 3, "y": 3})):
                parts = reference.told(short, width, values) != reference.told(self.told, width, values)
                self.assert_shown(parts, self.words, self.told, self.with_row(place, (short, width, values)))

    def test_told_sums_that_are_another(self):
        for text in (
            "sub x y", "x", "0", "add y y", "or x y", "add x z", "2", "add or x y and x y", "pick x y y", "add x neg neg y",
            "add not not x y",
        ):
            self.assert_shown(False, self.words, read_sum(text), self.paper)
            self.assert_shown(False, self.words, read_sum(text), ())

    def test_a_told_sum_that_is_not_the_first(self):
        other = ("add", "y", "x")
        rows = short_sums(("x", "y"))
        paper = tuple(
            (row,) + compared(row, other)[1:] if compared(row, other)[0] == "parted" else (row, 1, {"x": 0, "y": 0})
            for row in rows[:rows.index(other)]
        )
        full = tuple((short, width, {"x": 0, "y": 0, **values}) for short, width, values in paper)
        self.assert_shown(False, self.words, other, full)
        self.assert_shown(False, self.words, other, self.paper)
        place = rows.index(("add", "x", "y"))
        self.assert_shown(True, self.words, ("add", "x", "y"), full[:place])

    def test_another_given_sum(self):
        for text in ("odd x y", "add x z", "add x twice y", "add x 1", "add or x y and x z", "sub x y"):
            self.assert_shown(False, read_sum(text), self.told, self.paper)
        self.assert_shown(True, read_sum("add y x"), self.told, self.paper)
        self.assert_shown(True, read_sum("sub x neg y"), self.told, self.paper)

    def test_no_names(self):
        words = read_sum("sub 3 2")
        self.assertEqual(fewest(words), ((1,), (((0,), 1, {}),)))
        self.assert_shown(True, words, (1,), (((0,), 1, {}),))
        self.assert_shown(True, words, (1,), (((0,), 60, {}),))
        self.assert_shown(False, words, (1,), ())
        self.assert_shown(False, words, (1,), (((0,), 61, {}),))
        self.assert_shown(False, words, (1,), (((0,), 0, {}),))
        self.assert_shown(False, words, (1,), (((0,), 1, {"x": 0}),))
        self.assert_shown(False, words, (1,), (((0,), 1, {}), ((0,), 1, {})))
        self.assert_shown(False, words, (0,), ())
        self.assert_shown(False, words, ("x",), ())
        zero = read_sum("odd 1 1")
        self.assertEqual(fewest(zero), ((0,), ()))
        self.assert_shown(True, zero, (0,), ())
        self.assert_shown(False, zero, (0,), (((0,), 1, {}),))
        self.assert_shown(False, zero, ("and", 0, 0), ())

    def test_numbers_beyond_one(self):
        self.assert_shown(False, (2,), (2,), ())
        told, paper = fewest((2,))
        self.assertEqual(told, ("twice", 1))
        self.assert_shown(True, (2,), told, paper)
        self.assert_shown(False, (2,), (2,), paper)

    def test_words_late_in_width(self):
        words = read_sum("not low x")
        told, paper = fewest(words)
        self.assert_shown(True, words, told, paper)
        for place, (short, width, values) in enumerate(paper):
            wider = paper[:place] + ((short, 60, values),) + paper[place + 1:]
            parts = reference.told(short, 60, values) != reference.told(told, 60, values)
            self.assert_shown(parts, words, told, wider)


if __name__ == "__main__":
    unittest.main()
