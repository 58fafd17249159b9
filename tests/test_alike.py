import random
import unittest

import reference
from everywidth.claims.claims import read_claim
from everywidth.machines.alike import alike_shown, compared
from everywidth.machines.least import least
from everywidth.machines.made import claim_machine, machine_of
from everywidth.machines.runs import run
from everywidth.sums.texts import names_of, read_sum
from everywidth.sums.worths import worth

SAME = (
    ("add x y", "add y x"),
    ("add x y", "add or x y and x y"),
    ("add x y", "add odd x y twice and x y"),
    ("add add x y z", "add x add z y"),
    ("sub x y", "add x neg y"),
    ("neg x", "add not x 1"),
    ("twice x", "add x x"),
    ("low x", "and x neg x"),
    ("low x", "sub x and x sub x 1"),
    ("pick x y z", "or and x y and not x z"),
    ("pick x y z", "odd z and x odd y z"),
    ("odd x x", "0"),
    ("and x 0", "sub y y"),
    ("x", "not not x"),
    ("add x 999", "sub x neg 999"),
    ("twice twice twice twice twice 31", "992"),
    ("sub 1 1", "0"),
    ("7", "or 1 6"),
    ("not 0", "neg 1"),
)

PARTED = (
    ("x", "y", 1, {"x": 0, "y": 1}),
    ("y", "x", 1, {"x": 0, "y": 1}),
    ("add x y", "or x y", 1, {"x": 1, "y": 1}),
    ("add x y", "odd x y", 2, {"x": 1, "y": 1}),
    ("neg x", "x", 2, {"x": 1}),
    ("neg x", "not x", 1, {"x": 0}),
    ("x", "or x 512", 10, {"x": 0}),
    ("x", "and x not 512", 10, {"x": 512}),
    ("add x 999", "add x 487", 10, {"x": 0}),
    ("twice twice twice twice twice x", "0", 6, {"x": 1}),
    ("twice twice twice twice twice x", "twice twice twice twice x", 5, {"x": 1}),
    ("twice twice twice twice twice and x 512", "0", 15, {"x": 512}),
    ("twice twice twice twice twice and x and y 512", "and z 0", 15, {"x": 512, "y": 512, "z": 0}),
    ("low x", "x", 2, {"x": 3}),
    ("add twice twice twice x y", "y", 4, {"x": 1, "y": 0}),
    ("pick x y z", "pick x z y", 1, {"x": 0, "y": 0, "z": 1}),
    ("pick y x z", "x", 1, {"x": 0, "y": 0, "z": 1}),
    ("and x 0", "1", 1, {"x": 0}),
    ("3", "7", 3, {}),
    ("0", "512", 10, {}),
    ("not 0", "511", 10, {}),
    ("and a 0", "and zz 512", 10, {"a": 0, "zz": 512}),
    ("and zz 0", "and a 512", 10, {"a": 512, "zz": 0}),
    ("sub b a", "sub a b", 2, {"a": 0, "b": 1}),
    ("and and a b and c 4", "0", 3, {"a": 4, "b": 4, "c": 4}),
    ("and not a and b 256", "and c 0", 9, {"a": 0, "b": 256, "c": 0}),
)


def read_both(one, other):
    return read_sum(one), read_sum(other)


def parted_by_all_words(one, other, widths):
    """The least of the widths at which some words part the sums, with the first ones; or None."""
    names = tuple(sorted(set(names_of(one)) | set(names_of(other))))
    for width in widths:
        found = reference.first_choice(
            names, width, lambda values: reference.told(one, width, values) != reference.told(other, width, values)
        )
        if found is not None:
            return ("parted", width, found)
    return None


class ComparedTest(unittest.TestCase):
    def assert_same(self, one, other):
        told = compared(one, other)
        self.assertIs(type(told), tuple)
        self.assertEqual(len(told), 2, (one, other))
        self.assertEqual(told[0], "same")
        self.assertIs(type(told[1]), tuple)
        for pair in told[1]:
            self.assertEqual([type(pair), type(pair[0]), type(pair[1]), len(pair)], [tuple, int, int, 2])
        names = names_of(one + other)
        self.assertIs(alike_shown(machine_of(one, names), machine_of(other, names), told[1]), True)
        self.assertEqual(compared(one, other), told)

    def assert_parted(self, one, other, width, words):
        told = compared(one, other)
        self.assertEqual(told, ("parted", width, words), (one, other))
        self.assertEqual([type(part) for part in told], [tuple, str, int, dict][1:])
        self.assertEqual(set(told[2]), set(names_of(one)) | set(names_of(other)))
        self.assertNotEqual(worth(one, width, words), worth(other, width, words))
        self.assertTrue(all(0 <= word < 2**width for word in words.values()))

    def test_same_written_otherwise(self):
        for one, other in SAME:
            self.assert_same(*read_both(one, other))
            self.assert_same(*read_both(other, one))
            self.assert_same(*read_both(one, one))

    def test_parted(self):
        for one, other, width, words in PARTED:
            self.assert_parted(*read_both(one, other), width, words)
            self.assert_parted(*read_both(other, one), width, words)

    def test_parted_against_all_words(self):
        for one, other, width, _ in PARTED:
            one, other = read_both(one, other)
            if width * len(names_of(one + other)) <= 12:
                self.assertEqual(compared(one, other), parted_by_all_words(one, other, range(1, width + 1)))

    def test_drawn_sums_against_all_words(self):
        chance = random.Random(21)
        late = 0
        for names, widths in (((), 11), (("x",), 7), (("x", "y"), 4), (("a", "b", "c"), 2)):
            sums = reference.gathered(chance, reference.some_sum, names, 2, 24, 40)
            for one, other in zip(sums, sums[20:] + sums[:20]):
                told = compared(one, other)
                self.assertEqual(told[0], compared(other, one)[0])
                expected = parted_by_all_words(one, other, range(1, widths + 1))
                if told[0] == "same":
                    self.assertIsNone(expected, (one, other))
                    self.assert_same(one, other)
                    self.assert_same(other, one)
                elif told[1] <= widths:
                    self.assertEqual(told, expected, (one, other))
                    self.assertEqual(compared(other, one), expected)
                    late += told[1] > 2
                else:
                    self.assertIsNone(expected, (one, other))
                    self.assert_parted(one, other, told[1], told[2])
        self.assertGreater(late, 3)

    def test_the_paper_just_where_the_least_machines_are_the_same(self):
        chance = random.Random(22)
        seen = {"same": 0, "parted": 0}
        for names in ((), ("x",), ("x", "y")):
            sums = reference.gathered(chance, reference.some_sum, names, 2, 9, 30)
            sums += [("not", "not") + words for words in sums[:5]] + [("or",) + words * 2 for words in sums[:5]]
            sums = [words for words in sums if reference.within_bounds(words, 24)]
            machines = [least(machine_of(words, names)) for words in sums]
            for one, first in zip(sums, machines):
                for other, second in zip(sums, machines):
                    told = compared(one, other)[0]
                    self.assertEqual(told == "same", first == second, (one, other))
                    seen[told] += 1
        self.assertGreater(min(seen.values()), 100)

    def test_at_the_greatest_bounds(self):
        one = read_sum("add twice x sub y low add z 999")
        other = read_sum("add sub y low add 999 z twice x")
        self.assert_same(one, other)
        parted = read_sum("add twice x sub y low add z or 999 pick 0 x 0")
        self.assert_same(one, parted)
        late = read_sum("odd add twice x sub y low add z 999 and x 512")
        self.assert_parted(one, late, 10, {"x": 512, "y": 0, "z": 0})

    def test_what_is_told_is_the_askers_own(self):
        one, other = read_both("x", "or x 4")
        told = compared(one, other)
        told[2]["x"] = 5
        told[2]["y"] = 1
        self.assertEqual(compared(one, other), ("parted", 3, {"x": 0}))


class AlikeShownTest(unittest.TestCase):
    def setUp(self):
        self.one = machine_of(read_sum("add x y"), ("x", "y"))
        self.other = machine_of(read_sum("add odd x y twice and x y"), ("x", "y"))
        self.paper = compared(read_sum("add x y"), read_sum("add odd x y twice and x y"))[1]

    def assert_shown(self, truth, one, other, paper):
        self.assertIs(alike_shown(one, other, paper), truth, paper)

    def test_the_paper_told(self):
        self.assert_shown(True, self.one, self.other, self.paper)

    def test_pairs_in_another_order_or_twice(self):
        self.assert_shown(True, self.one, self.other, self.paper[::-1])
        self.assert_shown(True, self.one, self.other, self.paper + self.paper)
        self.assert_shown(True, self.one, self.other, self.paper + self.paper[:1])

    def test_each_pair_left_out(self):
        self.assertGreater(len(self.paper), 2)
        for place in range(len(self.paper)):
            self.assert_shown(False, self.one, self.other, self.paper[:place] + self.paper[place + 1:])

    def test_no_pairs(self):
        self.assert_shown(False, self.one, self.other, ())
        self.assert_shown(False, ((), 0, ((0,),), ((0,),)), ((), 0, ((0,),), ((0,),)), ())

    def test_pairs_turned_about(self):
        turned = tuple((right, left) for left, right in self.paper)
        self.assert_shown(True, self.other, self.one, turned)
        self.assert_shown(False, self.one, self.other, turned)
        self.assert_shown(False, self.other, self.one, self.paper)

    def test_numbers_that_are_no_states(self):
        lefts, rights = len(self.one[2]), len(self.other[2])
        for pair in (
            (-1, 0), (0, -1), (-1, -1), (-lefts, 0), (0, -rights), (-lefts, -rights), (1 - lefts, 1 - rights),
            (lefts, 0), (0, rights), (lefts, rights), (10**30, 0), (0, 10**30), (-10**30, 0),
        ):
            self.assert_shown(False, self.one, self.other, self.paper + (pair,))
            self.assert_shown(False, self.one, self.other, (pair,) + self.paper)

    def test_numbers_below_nought_in_the_place_of_states(self):
        one = ((), 0, ((0,),), ((1,),))
        self.assert_shown(True, one, one, ((0, 0),))
        self.assert_shown(False, one, one, ((-1, -1),))
        self.assert_shown(False, one, one, ((-1, 0),))
        self.assert_shown(False, one, one, ((0, -1),))
        self.assert_shown(False, one, one, ((0, 0), (-1, -1)))
        self.assert_shown(False, one, one, ((0, 0), (-1, 0)))
        self.assert_shown(False, one, one, ((0, 0), (0, -1)))
        self.assert_shown(False, one, one, ((0, 0), (0, 1)))
        self.assert_shown(False, one, one, ((0, 0), (1, 0)))

    def test_the_pair_of_begins_is_asked_for(self):
        one = (("x",), 1, ((0, 0), (0, 0)), ((0, 1), (0, 1)))
        self.assert_shown(False, one, one, ((0, 0),))
        self.assert_shown(False, one, one, ((1, 1),))
        self.assert_shown(True, one, one, ((1, 1), (0, 0)))
        self.assert_shown(False, one, one, ((0, 1), (0, 0)))
        self.assert_shown(True, one, one, ((1, 1), (0, 1), (0, 0)))

    def test_a_pair_that_is_not_needed_is_looked_at_too(self):
        one = (("x",), 0, ((0, 0), (0, 0), (0, 1)), ((0, 1), (1, 1), (0, 1)))
        self.assert_shown(True, one, one, ((0, 0),))
        self.assert_shown(True, one, one, ((0, 0), (1, 1)))
        self.assert_shown(False, one, one, ((0, 0), (0, 1)))
        self.assert_shown(False, one, one, ((0, 0), (0, 2)))
        self.assert_shown(False, one, one, ((0, 0), (2, 2)))
        self.assert_shown(True, one, one, ((0, 0), (2, 2), (1, 1)))

    def test_each_letter_is_looked_at(self):
        for letters in (1, 2, 4, 8):
            names = ("a", "b", "c")[: letters.bit_length() - 1]
            one = (names, 0, ((0,) * letters, (0,) * letters), ((0,) * letters, (0,) * letters))
            for letter in range(letters):
                bits = tuple(int(place == letter) for place in range(letters))
                self.assert_shown(False, one, (names, 0, one[2], (bits, one[3][1])), ((0, 0),))
                self.assert_shown(False, one, (names, 0, (bits, one[2][1]), one[3]), ((0, 0),))
                self.assert_shown(True, one, (names, 0, (bits, one[2][1]), one[3]), ((0, 0), (0, 1)))

    def test_unlike_names(self):
        one = machine_of(read_sum("x"), ("x",))
        other = machine_of(read_sum("y"), ("y",))
        self.assertEqual(one[1:], other[1:])
        paper = compared(("x",), ("x",))[1]
        self.assert_shown(True, one, one, paper)
        self.assert_shown(False, one, other, paper)
        self.assert_shown(False, one, machine_of(("x",), ("x", "y")), paper)
        self.assert_shown(False, machine_of(("x",), ("x", "y")), one, paper)
        self.assert_shown(False, ((), 0, ((0,),), ((0,),)), (("x",), 0, ((0, 0),), ((0, 0),)), ((0, 0),))

    def test_claims(self):
        one = claim_machine(read_claim("same x y"), ("x", "y"))
        other = claim_machine(read_claim("nought odd x y"), ("x", "y"))
        pairs = tuple((left, right) for left in range(len(one[2])) for right in range(len(other[2])))
        shown = [
            paper for paper in ((), pairs, pairs[:1], ((0, 0), (1, 1)), ((0, 0), (1, 1), (0, 1)))
            if alike_shown(one, other, paper)
        ]
        self.assertEqual(shown, [((0, 0), (1, 1))])
        self.assert_shown(False, one, claim_machine(read_claim("under x y"), ("x", "y")), ((0, 0), (1, 1)))

    def test_drawn_machines_and_papers(self):
        chance = random.Random(23)
        seen = [0, 0]
        for turn in range(300):
            names = ((), ("x",), ("x", "y"), ("a", "b", "c"))[turn % 4]
            one = reference.drawn_machine(chance, names, 1 + turn % 5, (int, bool)[turn // 4 % 2])
            other = least(one) if turn % 3 else reference.drawn_machine(chance, names, 3, (int, bool)[turn // 4 % 2])
            pairs = [(one[1], other[1])]
            for left, right in pairs:
                pairs.extend(pair for pair in zip(one[2][left], other[2][right]) if pair not in pairs)
            chance.shuffle(pairs)
            paper = tuple(pairs)
            alike = all(one[3][left] == other[3][right] for left, right in paper)
            self.assert_shown(alike, one, other, paper)
            seen[alike] += 1
            for place in range(len(paper)):
                self.assert_shown(False, one, other, paper[:place] + paper[place + 1:])
            if alike:
                letters = tuple(chance.randrange(2 ** len(names)) for _ in range(60))
                self.assertEqual(run(one, letters), run(other, letters))
        self.assertGreater(min(seen), 30)


if __name__ == "__main__":
    unittest.main()
