import random
import unittest

import reference
from everywidth.claims.claims import holds, read_claim
from everywidth.machines.made import claim_machine, machine_of
from everywidth.machines.runs import letters_of, run
from everywidth.sums.texts import names_of, read_sum
from everywidth.sums.worths import worth


def row_of(word, width):
    return tuple(word // 2**place % 2 for place in range(width))


def reached(machine):
    """The states that are led to from the begin."""
    seen, waiting = {machine[1]}, [machine[1]]
    while waiting:
        for state in machine[2][waiting.pop()]:
            if state not in seen:
                seen.add(state)
                waiting.append(state)
    return seen


class MachinesTest(unittest.TestCase):
    def assert_shape(self, machine, names, kind):
        self.assertIs(type(machine), tuple)
        self.assertEqual(len(machine), 4)
        told_names, begin, steps, out = machine
        self.assertIs(type(told_names), tuple)
        self.assertEqual(told_names, names)
        self.assertIs(type(steps), tuple)
        self.assertIs(type(out), tuple)
        self.assertEqual(len(steps), len(out))
        self.assertIs(type(begin), int)
        self.assertIn(begin, range(len(steps)))
        for row in steps:
            self.assertIs(type(row), tuple)
            self.assertEqual(len(row), 2 ** len(names))
            for state in row:
                self.assertIs(type(state), int)
                self.assertIn(state, range(len(steps)))
        for row in out:
            self.assertIs(type(row), tuple)
            self.assertEqual([type(told) for told in row], [kind] * 2 ** len(names))
            for told in row:
                self.assertIn(told, (0, 1))
        self.assertEqual(reached(machine), set(range(len(steps))))

    def assert_tells_worth(self, words, names, width, values, machine):
        row = run(machine, letters_of(names, width, values))
        expected = reference.told(words, width, values)
        self.assertEqual(row, row_of(expected, width), (words, width, values))
        self.assertEqual(worth(words, width, values), expected)

    def assert_tells_truth(self, claim, names, width, values, machine):
        row = run(machine, letters_of(names, width, values))
        expected = reference.told(claim, width, values)
        self.assertIs(row[-1], expected, (claim, width, values))
        self.assertIs(holds(claim, width, values), expected)


class SumMachineTest(MachinesTest):
    def test_each_word_by_all_words_of_small_widths(self):
        for word, parts in reference.SUM_PARTS.items():
            names = ("x", "y", "z")[:parts]
            machine = machine_of((word,) + names, names)
            self.assert_shape(machine, names, int)
            for width in (1, 2, 3):
                for values in reference.choices(names, width, range(2**width)):
                    self.assert_tells_worth((word,) + names, names, width, values, machine)

    def test_each_word_at_many_widths_by_edges(self):
        for word, parts in reference.SUM_PARTS.items():
            names = ("x", "y", "z")[:parts]
            machine = machine_of((word,) + names, names)
            for width in reference.WIDTHS:
                some = reference.edge_words(width) if parts < 3 else (0, 1, 2 ** (width - 1), 2**width - 1)
                for values in reference.choices(names, width, some):
                    self.assert_tells_worth((word,) + names, names, width, values, machine)

    def test_parts_in_another_order_than_names(self):
        for text in ("sub y x", "pick z x y", "pick y z x", "sub sub z x y", "and y not x"):
            words = read_sum(text)
            names = names_of(words)
            machine = machine_of(words, names)
            for values in reference.choices(names, 3, range(8)):
                self.assert_tells_worth(words, names, 3, values, machine)

    def test_sums_by_chance(self):
        chance = random.Random(9)
        for words in reference.gathered(chance, reference.some_sum, ("x", "y", "z"), 4, 24, 300):
            names = names_of(words)
            machine = machine_of(words, names)
            self.assert_shape(machine, names, int)
            for width in (1, 2, 5, 11, 33, 60):
                for _ in range(4):
                    values = {name: chance.randrange(2**width) for name in names}
                    self.assert_tells_worth(words, names, width, values, machine)

    def test_names_beyond_those_of_the_sum(self):
        for text, names in (("not y", ("x", "y", "z")), ("add x 5", ("a", "x")), ("sub z x", ("x", "y", "z")),
                            ("12", ("b",)), ("neg 1", ("x", "y", "z")), ("x", ("w", "x", "xx"))):
            words = read_sum(text)
            machine = machine_of(words, names)
            self.assert_shape(machine, names, int)
            for width in (1, 2, 3, 4):
                for values in reference.choices(names, width, range(2**width) if width < 4 else (0, 1, 8, 15)):
                    self.assert_tells_worth(words, names, width, values, machine)

    def test_no_names_at_all(self):
        for text in ("0", "1", "5", "999", "neg 1", "add 12 12", "low 12", "not 0", "twice twice 3", "pick 5 9 6"):
            words = read_sum(text)
            machine = machine_of(words, ())
            self.assert_shape(machine, (), int)
            for width in range(1, 61):
                self.assertEqual(letters_of((), width, {}), (0,) * width)
                self.assert_tells_worth(words, (), width, {}, machine)

    def test_numbers(self):
        for number in list(range(20)) + [511, 512, 513, 998, 999, 1000, 10**12]:
            machine = machine_of((number,), ("x",))
            self.assert_shape(machine, ("x",), int)
            for width in (1, 2, 9, 10, 11, 60):
                self.assertEqual(run(machine, (1,) * width), row_of(number, width))
            machine = machine_of(("add", "x", number), ("x",))
            for width in (1, 2, 9, 10, 11, 60):
                self.assert_tells_worth(("add", "x", number), ("x",), width, {"x": 2**width - 1}, machine)

    def test_greatest_sums(self):
        for text in ("add x twice sub y neg low add z 999", "pick x add y 999 sub neg z twice low add x y",
                     "add add add add add x y z 999 x 512", "or " * 11 + "x y z x y z x y z x y z"):
            words = read_sum(text)
            names = ("x", "y", "z")
            machine = machine_of(words, names)
            self.assert_shape(machine, names, int)
            for width in (1, 2, 3, 12, 60):
                for values in reference.choices(names, width, (0, 1, 2 ** (width - 1), 2**width - 1)):
                    self.assert_tells_worth(words, names, width, values, machine)

    def test_deep_sums(self):
        machine = machine_of(("not",) * 1500 + ("x",), ("x",))
        self.assertEqual(run(machine, (0, 1, 1, 0)), (0, 1, 1, 0))

    def test_asked_again_the_same(self):
        words = read_sum("pick x add y 12 sub low x neg y")
        names = ("x", "y", "z")
        first = machine_of(words, names)
        machine_of(read_sum("add x y"), ("x", "y"))
        claim_machine(read_claim("same x y"), ("x", "y"))
        self.assertEqual(machine_of(words, names), first)
        self.assertEqual(names, ("x", "y", "z"))


class ClaimMachineTest(MachinesTest):
    def test_each_word_about_sums(self):
        for word, parts in reference.SUMS_IN_CLAIM.items():
            names = ("x", "y")[:parts]
            claim = (word,) + names
            machine = claim_machine(claim, names)
            self.assert_shape(machine, names, bool)
            for width in (1, 2, 3, 4):
                for values in reference.choices(names, width, range(2**width)):
                    self.assert_tells_truth(claim, names, width, values, machine)
            for width in reference.WIDTHS:
                for values in reference.choices(names, width, reference.edge_words(width)):
                    self.assert_tells_truth(claim, names, width, values, machine)

    def test_each_word_about_claims(self):
        for word, parts in reference.CLAIMS_IN_CLAIM.items():
            claim = (word,) + ("sign", "x", "nought", "y")[:2 * parts]
            machine = claim_machine(claim, ("x", "y"))
            self.assert_shape(machine, ("x", "y"), bool)
            for width in (1, 2, 3):
                for values in reference.choices(("x", "y"), width, range(2**width)):
                    self.assert_tells_truth(claim, ("x", "y"), width, values, machine)

    def test_parts_in_another_order_than_names(self):
        for text in ("under y x", "beneath y x", "so sign y sign x", "same sub y x sub x y"):
            claim = read_claim(text)
            machine = claim_machine(claim, ("x", "y"))
            for values in reference.choices(("x", "y"), 3, range(8)):
                self.assert_tells_truth(claim, ("x", "y"), 3, values, machine)

    def test_each_out_is_that_of_the_width_that_ends_there(self):
        claim = read_claim("either beneath x y both sign add x y never nought sub x 5")
        machine = claim_machine(claim, ("x", "y"))
        for x in (0, 5, 77, 200, 255):
            for y in (0, 1, 127, 128, 255):
                row = run(machine, letters_of(("x", "y"), 8, {"x": x, "y": y}))
                for width in range(1, 9):
                    values = {"x": x % 2**width, "y": y % 2**width}
                    self.assertIs(row[width - 1], reference.told(claim, width, values))

    def test_claims_by_chance(self):
        chance = random.Random(10)
        for claim in reference.gathered(chance, reference.some_claim, ("x", "y", "z"), 3, 40, 300):
            names = names_of(claim)
            machine = claim_machine(claim, names)
            self.assert_shape(machine, names, bool)
            for width in (1, 2, 5, 11, 33, 60):
                for _ in range(4):
                    values = {name: chance.choice(reference.edge_words(width)) for name in names}
                    self.assert_tells_truth(claim, names, width, values, machine)

    def test_names_beyond_those_of_the_claim(self):
        for text, names in (("sign y", ("x", "y", "z")), ("under x 5", ("a", "x")), ("beneath z x", ("x", "y", "z")),
                            ("yes", ("b",)), ("never same 1 1", ("x", "y", "z"))):
            claim = read_claim(text)
            machine = claim_machine(claim, names)
            self.assert_shape(machine, names, bool)
            for width in (1, 2, 3):
                for values in reference.choices(names, width, range(2**width)):
                    self.assert_tells_truth(claim, names, width, values, machine)

    def test_no_names_at_all(self):
        for text in ("yes", "never yes", "same 1 5", "under 3 4", "beneath 7 8", "sign 512", "nought 512",
                     "both sign neg 1 yes", "so sign 5 nought 8"):
            claim = read_claim(text)
            machine = claim_machine(claim, ())
            self.assert_shape(machine, (), bool)
            for width in range(1, 61):
                self.assert_tells_truth(claim, (), width, {}, machine)

    def test_greatest_claims(self):
        text = ("both under add x add y z sub x low y either beneath sub x y 999 "
                "so same or z x not y never nought pick x y z")
        names = ("x", "y", "z")
        for claim in (read_claim(text), read_claim("never " * 38 + "sign x")):
            machine = claim_machine(claim, names)
            self.assert_shape(machine, names, bool)
            for width in (1, 2, 3, 12, 60):
                for values in reference.choices(names, width, (0, 1, 2 ** (width - 1), 2**width - 1)):
                    self.assert_tells_truth(claim, names, width, values, machine)

    def test_asked_again_the_same(self):
        claim = read_claim("so under x add y 12 either sign x nought y")
        first = claim_machine(claim, ("x", "y", "z"))
        claim_machine(read_claim("same x y"), ("x", "y"))
        machine_of(read_sum("add x y"), ("x", "y"))
        self.assertEqual(claim_machine(claim, ("x", "y", "z")), first)


if __name__ == "__main__":
    unittest.main()
