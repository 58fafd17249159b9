import random
import unittest
from fractions import Fraction

import reference
from everywidth.claims.claims import read_claim
from everywidth.claims.counts import count, rule, rule_shown
from everywidth.claims.widths import for_all, for_some
from everywidth.machines.least import least
from everywidth.machines.made import claim_machine
from everywidth.sums.texts import names_of

RULES = (
    ("yes", (1,), (1,)),
    ("never yes", (), ()),
    ("under x x", (), ()),
    ("same x x", (2,), (2,)),
    ("same x y", (2,), (2,)),
    ("never same x y", (2, 12), (6, -8)),
    ("under x y", (1, 6), (6, -8)),
    ("beneath x y", (1, 6), (6, -8)),
    ("sign x", (1,), (2,)),
    ("either sign x never sign y", (3,), (4,)),
    ("nought and x and y z", (7,), (7,)),
    ("nought and x y", (3,), (3,)),
    ("nought and x twice x", (2, 3), (1, 1)),
    ("nought and and x twice x twice twice x", (2, 4, 7), (1, 1, 1)),
    ("both same x not twice x sign x", (1, 0), (0, 1)),
    ("both same x add 1 twice twice twice x sign x", (1, 0, 0), (0, 0, 1)),
    ("under x 5", (1, 1, 5), (1, 0, 0)),
    ("sign 4", (0, 0, 1), (0, 0, 0)),
    ("sign 1", (1,), (0,)),
    ("nought 4", (1, 1), (0, 0)),
    ("never nought 4", (0, 0, 1), (1, 0, 0)),
    ("beneath 0 1", (0, 1), (1, 0)),
)


def counts_of(claim, many):
    """The counts by the machine as it is made, one letter at a time."""
    _, begin, steps, out = claim_machine(claim, names_of(claim))
    ways = {begin: 1}
    counts = []
    for _ in range(many):
        counts.append(sum(times for state, times in ways.items() for truth in out[state] if truth))
        onward = {}
        for state, times in ways.items():
            for led_to in steps[state]:
                onward[led_to] = onward.get(led_to, 0) + times
        ways = onward
    return counts


def goes_by(counts, firsts, terms):
    """Whether the counts go by a rule as far as they are there."""
    many = len(terms)
    return counts[:many] == list(firsts) and all(
        counts[place] == sum(term * counts[place - 1 - back] for back, term in enumerate(terms))
        for place in range(many, len(counts))
    )


def fewest_terms_by_ranks(counts):
    """With how few terms the counts can go by a rule: where the rows of counts, each one further on, grow no more."""
    half = len(counts) // 2
    rows = [[Fraction(number) for number in counts[place:place + half]] for place in range(half)]
    rank = 0
    for column in range(half):
        pivot = next((row for row in range(rank, half) if rows[row][column]), None)
        if pivot is None:
            continue
        rows[rank], rows[pivot] = rows[pivot], rows[rank]
        for row in range(rank + 1, half):
            if rows[row][column]:
                factor = rows[row][column] / rows[rank][column]
                rows[row] = [left - factor * right for left, right in zip(rows[row], rows[rank])]
        rank += 1
    return rank


class CountTest(unittest.TestCase):
    def test_drawn_claims_against_all_words(self):
        chance = random.Random(41)
        for names, widths in (((), 10), (("x",), 6), (("x", "y"), 4), (("a", "b", "c"), 2)):
            for claim in reference.gathered(chance, reference.some_claim, names, 2, 40, 40):
                for width in range(1, widths + 1):
                    values = reference.choices(names_of(claim), width, range(2**width))
                    expected = sum(reference.told(claim, width, words) for words in values)
                    told = count(claim, width)
                    self.assertIs(type(told), int)
                    self.assertEqual(told, expected, (claim, width))

    def test_at_width_sixty(self):
        many = 2**60
        for text, expected in (
            ("yes", 1),
            ("never yes", 0),
            ("same x x", many),
            ("same x y", many),
            ("under x y", many * (many - 1) // 2),
            ("beneath x y", many * (many - 1) // 2),
            ("nought and x y", 3**60),
            ("nought and x and y z", 7**60),
            ("sign x", many // 2),
            ("under x 999", 999),
            ("same add x y z", many**2),
            ("both under x y under y z", many * (many - 1) * (many - 2) // 6),
            ("same low x x", 61),
            ("nought sub add x y add y x", many**2),
            ("same pick x y z 0", 4**60),
            ("both sign x never nought and y 1", many // 2 * (many // 2)),
        ):
            self.assertEqual(count(read_claim(text), 60), expected, text)

    def test_a_claim_and_never_it(self):
        chance = random.Random(42)
        for names in ((), ("x",), ("x", "y"), ("a", "b", "c")):
            for claim in reference.gathered(chance, reference.some_claim, names, 2, 39, 15):
                for width in reference.WIDTHS:
                    together = count(claim, width) + count(("never",) + claim, width)
                    self.assertEqual(together, 2 ** (width * len(names_of(claim))))

    def test_no_names(self):
        for width in (1, 9, 10, 11, 60):
            self.assertEqual(count(read_claim("sign 512"), width), int(width == 10))
            self.assertEqual(count(read_claim("under 1 2"), width), int(width > 1))

    def test_names_on_which_nothing_hangs(self):
        self.assertEqual(count(read_claim("either sign x nought and y 0"), 60), 2**120)
        self.assertEqual(count(read_claim("both sign x nought and y 0"), 60), 2**119)

    def test_all_and_some_by_counts(self):
        chance = random.Random(43)
        for names in ((), ("x",), ("x", "y")):
            for claim in reference.gathered(chance, reference.some_claim, names, 2, 40, 20):
                for width in range(1, 25):
                    for (tail, ring), truth in (
                        (for_all(claim), count(claim, width) == 2 ** (width * len(names_of(claim)))),
                        (for_some(claim), count(claim, width) > 0),
                    ):
                        told = (tail + ring * 25)[width - 1]
                        self.assertEqual(told, truth, (claim, width))


class RuleTest(unittest.TestCase):
    def assert_rule(self, claim):
        told = rule(claim)
        self.assertEqual([type(told)] + [type(part) for part in told], [tuple] * 3)
        firsts, terms = told
        self.assertEqual(len(firsts), len(terms))
        self.assertTrue(all(type(number) is int for number in firsts + terms))
        counts = counts_of(claim, 140)
        self.assertTrue(goes_by(counts, firsts, terms), claim)
        self.assertIs(rule_shown(claim, told), True)
        self.assertEqual(rule(claim), told)
        return told, counts

    def test_written_rules(self):
        for text, firsts, terms in RULES:
            claim = read_claim(text)
            self.assertEqual(rule(claim), (firsts, terms), text)
            self.assert_rule(claim)

    def test_as_few_terms_as_can_be(self):
        chance = random.Random(44)
        seen = {}
        for names in ((), ("x",), ("x", "y"), ("a", "b", "c")):
            for claim in reference.gathered(chance, reference.some_claim, names, 2, 40, 30):
                states = len(least(claim_machine(claim, names_of(claim)))[2])
                if states > 60:
                    continue
                (firsts, terms), counts = self.assert_rule(claim)
                if states <= 16:
                    self.assertEqual(len(terms), fewest_terms_by_ranks(counts[:2 * states + 2]), claim)
                seen[len(terms)] = True
        self.assertGreater(len(seen), 4)

    def test_rules_with_many_terms(self):
        for text in (
            "both same x odd 1 twice twice odd x twice twice twice x sign x",
            "both same add x twice twice add x twice x 1 sign x",
            "both nought and x twice twice x under 100 x",
            "both under add x y z sign odd x y",
        ):
            claim = read_claim(text)
            states = len(least(claim_machine(claim, names_of(claim)))[2])
            self.assertLessEqual(states, 60)
            (firsts, terms), counts = self.assert_rule(claim)
            self.assertEqual(len(terms), fewest_terms_by_ranks(counts[:2 * len(terms) + 6]))
        self.assertEqual(len(rule(read_claim("both same x odd 1 twice twice odd x twice twice twice x sign x"))[0]), 31)


class RuleShownTest(unittest.TestCase):
    def assert_shown(self, truth, claim, firsts, terms):
        self.assertIs(rule_shown(claim, (firsts, terms)), truth, (claim, firsts, terms))

    def test_each_number_off_by_one(self):
        for text, firsts, terms in RULES:
            claim = read_claim(text)
            self.assert_shown(True, claim, firsts, terms)
            counts = counts_of(claim, 140)
            for place in range(len(terms)):
                for more in (1, -1):
                    off = firsts[:place] + (firsts[place] + more,) + firsts[place + 1:]
                    self.assert_shown(False, claim, off, terms)
                    off = terms[:place] + (terms[place] + more,) + terms[place + 1:]
                    self.assert_shown(goes_by(counts, firsts, off), claim, firsts, off)
                    if any(terms):
                        self.assert_shown(False, claim, firsts, off)

    def test_without_the_last(self):
        for text, firsts, terms in RULES:
            if terms:
                self.assert_shown(False, read_claim(text), firsts[:-1], terms[:-1])
                self.assert_shown(False, read_claim(text), firsts[1:], terms[1:])

    def test_no_terms(self):
        for text, firsts, _ in RULES:
            self.assert_shown(firsts == (), read_claim(text), (), ())

    def test_longer_ones_that_go_as_well(self):
        chance = random.Random(45)
        for text, firsts, terms in RULES:
            claim = read_claim(text)
            counts = counts_of(claim, 140)
            for many in (len(terms) + 1, len(terms) + 2, 20, 60):
                # The rule at some widths further ahead, so often taken, is added to that at the last ones.
                weights = [-1] + list(terms) + [0] * (many - len(terms))
                for shift in range(1, many - len(terms) + 1):
                    times = chance.randrange(-3, 4)
                    for place, term in enumerate((-1,) + terms):
                        weights[place + shift] += times * term
                longer = tuple(weights[1:])
                self.assertTrue(goes_by(counts, counts[:many], longer))
                self.assert_shown(True, claim, tuple(counts[:many]), longer)
                plain = terms + (0,) * (many - len(terms))
                self.assert_shown(True, claim, tuple(counts[:many]), plain)
                off = longer[:-1] + (longer[-1] + 1,)
                self.assert_shown(goes_by(counts, counts[:many], off), claim, tuple(counts[:many]), off)
                off = tuple(counts[:many - 1]) + (counts[many - 1] - 1,)
                self.assert_shown(False, claim, off, longer)

    def test_rules_that_go_for_long_and_then_do_not(self):
        self.assert_shown(False, read_claim("nought 512"), (1,), (1,))
        self.assert_shown(False, read_claim("never nought 512"), (), ())
        self.assert_shown(False, read_claim("sign 512"), (), ())
        self.assert_shown(False, read_claim("sign 512"), (0,), (5,))
        self.assert_shown(False, read_claim("never same x and x 511"), (), ())
        self.assert_shown(False, read_claim("either never nought 512 same x x"), (2,), (3,))
        self.assert_shown(True, read_claim("sign 512"), (0,) * 9 + (1,), (0,) * 10)
        self.assert_shown(True, read_claim("sign 512"), (0,) * 9 + (1,) + (0,) * 50, (0,) * 60)
        self.assert_shown(False, read_claim("sign 512"), (0,) * 9 + (1,) + (0,) * 50, (0,) * 50 + (1,) + (0,) * 9)

    def test_a_rule_that_fails_at_the_last_width_that_counts(self):
        # As many states as widths: the last state alone tells anything.
        for high in range(10):
            claim = read_claim(f"never nought {2 ** high}")
            self.assertEqual(len(least(claim_machine(claim, ()))[2]), high + 1)
            self.assert_shown(False, claim, (), ())
            self.assert_shown(high == 0, claim, (1,), (1,))

    def test_numbers_of_sixty_figures(self):
        great = 10**60 - 1
        claim = read_claim("nought x")
        self.assert_shown(False, claim, (great,), (1,))
        self.assert_shown(False, claim, (1,), (great,))
        self.assert_shown(False, claim, (1,), (-great,))
        self.assert_shown(True, claim, (1, 1), (great, 1 - great))
        self.assert_shown(False, claim, (1, 1), (great, 2 - great))
        self.assert_shown(True, ("never", "yes"), (0, 0), (great, -great))
        self.assert_shown(True, ("never", "yes"), (0,) * 60, (great,) * 60)
        self.assert_shown(False, ("never", "yes"), (0,) * 59 + (1,), (0,) * 60)

    def test_counts_of_one_claim_are_not_those_of_another(self):
        for text, firsts, terms in RULES:
            for other, other_firsts, other_terms in RULES:
                expected = (firsts, terms) == (other_firsts, other_terms)
                self.assert_shown(expected, read_claim(text), other_firsts, other_terms)


if __name__ == "__main__":
    unittest.main()
