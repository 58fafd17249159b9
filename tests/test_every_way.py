"""What is told in one way holds in every other one, too."""

import random
import unittest

import reference
from everywidth.claims.claims import holds
from everywidth.claims.counts import count, rule, rule_shown
from everywidth.claims.widths import failing, for_all, for_some, holding
from everywidth.errors import NoShorter, NoWords
from everywidth.machines.alike import alike_shown, compared
from everywidth.machines.least import least
from everywidth.machines.made import claim_machine, machine_of
from everywidth.machines.runs import letters_of, run
from everywidth.sums.fewest import fewest, fewest_shown
from everywidth.sums.texts import names_of, read_sum, sum_shown
from everywidth.sums.turns import led, steps
from everywidth.sums.worths import worth
from everywidth.whole import Desk

WIDTHS = tuple(range(1, 13)) + (31, 32, 59, 60)


def at(told, width):
    tail, ring = told
    return tail[width - 1] if width <= len(tail) else ring[(width - 1 - len(tail)) % len(ring)]


def drawn_pairs(chance, names, many):
    """Pairs of sums, some of them the same at every width; a claim of both keeps within the bounds."""
    pairs = []
    while len(pairs) < many:
        one = reference.some_sum(chance, names, 2)
        other = reference.some_sum(chance, names, 2)
        if len(pairs) % 2:
            other = one
            for _ in range(3):
                other = led(other, tuple(chance.sample(steps(other), min(1, len(steps(other))))))
        if reference.within_bounds(("same",) + one + other, 40) and max(len(one), len(other)) <= 24:
            pairs.append((one, other))
    return pairs


class SumsTest(unittest.TestCase):
    def assert_same_every_way(self, one, other, names, paper):
        first, second = machine_of(one, names), machine_of(other, names)
        claim = ("same",) + one + other
        self.assertTrue(alike_shown(first, second, paper))
        self.assertEqual(least(first), least(second))
        self.assertEqual(for_all(claim), ((), (True,)))
        self.assertEqual(least(claim_machine(claim, names)), least(claim_machine(("yes",), names)))
        self.assertEqual(rule(claim), ((2 ** len(names),), (2 ** len(names),)))
        for width in WIDTHS:
            self.assertEqual(count(claim, width), 2 ** (width * len(names)))
            with self.assertRaises(NoWords):
                failing(claim, width)

    def assert_parted_every_way(self, one, other, names, width, words):
        first, second = machine_of(one, names), machine_of(other, names)
        claim = ("same",) + one + other
        self.assertNotEqual(least(first), least(second))
        self.assertNotEqual(worth(one, width, words), worth(other, width, words))
        letters = letters_of(names, width, words)
        self.assertNotEqual(run(first, letters), run(second, letters))
        self.assertEqual(run(first, letters)[:-1], run(second, letters)[:-1])
        self.assertEqual(failing(claim, width), words)
        self.assertEqual([at(for_all(claim), place) for place in range(1, width)], [True] * (width - 1))
        self.assertFalse(at(for_all(claim), width))
        for place in range(1, width):
            self.assertEqual(count(claim, place), 2 ** (place * len(names)))
        self.assertLess(count(claim, width), 2 ** (width * len(names)))

    def test_compared(self):
        chance = random.Random(81)
        seen = {"same": 0, "parted": 0}
        for names in ((), ("x",), ("x", "y"), ("x", "y", "z")):
            for one, other in drawn_pairs(chance, names, 30):
                all_names = names_of(one + other)
                told = compared(one, other)
                seen[told[0]] += 1
                if told[0] == "same":
                    self.assert_same_every_way(one, other, all_names, told[1])
                else:
                    self.assert_parted_every_way(one, other, all_names, told[1], told[2])
        self.assertGreater(min(seen.values()), 30)

    def test_chains_and_fewest(self):
        chance = random.Random(82)
        desk = Desk()
        for words in reference.gathered(chance, reference.some_sum, ("x", "y"), 2, 9, 40):
            names = names_of(words)
            desk.ask(f"sum given {sum_shown(words)}")
            try:
                told, paper = fewest(words)
            except NoShorter:
                told, paper = None, None
            for step in steps(words):
                turned = led(words, (step,))
                if not reference.within_bounds(turned, 24) or names_of(turned) != names:
                    continue
                self.assertEqual(least(machine_of(turned, names)), least(machine_of(words, names)))
                desk.ask(f"sum turned {sum_shown(turned)}")
                self.assertEqual(desk.ask("same given turned"), ["same"])
                if told is None:
                    self.assertRaises(NoShorter, fewest, turned)
                else:
                    self.assertEqual(fewest(turned), (told, paper))
                    self.assertTrue(fewest_shown(turned, told, paper))
            if told is not None:
                self.assertEqual(compared(words, told)[0], "same")
                self.assertEqual(least(machine_of(told, names)), least(machine_of(words, names)))

    def test_late_widths(self):
        for one, other, width, words in (
            ("twice twice twice twice twice and x 512", "and x 0", 15, {"x": 512}),
            ("or x 512", "x", 10, {"x": 0}),
            ("and y and x 999", "and and y x 487", 10, {"x": 512, "y": 512}),
        ):
            one, other = read_sum(one), read_sum(other)
            self.assertEqual(compared(one, other), ("parted", width, words))
            self.assert_parted_every_way(one, other, names_of(one + other), width, words)


class ClaimsTest(unittest.TestCase):
    def assert_widths_words_and_counts(self, claim):
        names = names_of(claim)
        for width in WIDTHS:
            many = count(claim, width)
            self.assertEqual(at(for_all(claim), width), many == 2 ** (width * len(names)))
            self.assertEqual(at(for_some(claim), width), many > 0)
            for ask, there, truth in (
                (failing, many < 2 ** (width * len(names)), False), (holding, many > 0, True)
            ):
                if not there:
                    self.assertRaises(NoWords, ask, claim, width)
                    continue
                words = ask(claim, width)
                self.assertIs(holds(claim, width, words), truth)
                self.assertIs(run(claim_machine(claim, names), letters_of(names, width, words))[-1], truth)

    def test_drawn_claims(self):
        chance = random.Random(83)
        for names in ((), ("x",), ("x", "y"), ("x", "y", "z")):
            for claim in reference.gathered(chance, reference.some_claim, names, 2, 38, 15):
                self.assert_widths_words_and_counts(claim)

    def test_claims_written_otherwise(self):
        chance = random.Random(84)
        for names in ((), ("x",), ("x", "y")):
            for claim in reference.gathered(chance, reference.some_claim, names, 2, 30, 15):
                machine = least(claim_machine(claim, names_of(claim)))
                for other in (
                    ("never", "never") + claim, ("both", "yes") + claim, ("either", "never", "yes") + claim,
                    ("so", "yes") + claim, ("never", "so") + claim + ("never", "yes"),
                ):
                    self.assertEqual(least(claim_machine(other, names_of(other))), machine)
                    self.assertEqual(for_all(other), for_all(claim))
                    self.assertEqual(for_some(other), for_some(claim))
                    self.assertEqual(count(other, 60), count(claim, 60))
                    if len(machine[2]) <= 60:
                        self.assertEqual(rule(other), rule(claim))
                        self.assertTrue(rule_shown(other, rule(claim)))


if __name__ == "__main__":
    unittest.main()
