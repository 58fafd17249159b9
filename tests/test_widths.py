import random
import unittest

import reference
from everywidth.claims.claims import holds, read_claim
from everywidth.claims.widths import failing, for_all, for_some, holding
from everywidth.errors import NoWords
from everywidth.sums.texts import names_of

# A claim, and the widths at which it holds for all words and for some: tails and rings of y and n.
TOLD = (
    ("yes", "", "y", "", "y"),
    ("never yes", "", "n", "", "n"),
    ("same x x", "", "y", "", "y"),
    ("same x y", "", "n", "", "y"),
    ("under x x", "", "n", "", "n"),
    ("nought x", "", "n", "", "y"),
    ("same not x x", "", "n", "", "n"),
    ("either nought twice x never nought x", "", "y", "", "y"),
    # From a width on, and up to one.
    ("under 5 x", "", "n", "n", "y"),
    ("under 3 x", "", "n", "nn", "y"),
    ("never nought 512", "nnnnnnnnn", "y", "nnnnnnnnn", "y"),
    ("nought 512", "yyyyyyyyy", "n", "yyyyyyyyy", "n"),
    ("nought twice twice x", "yy", "n", "", "y"),
    ("nought and x 8", "yyy", "n", "", "y"),
    ("same neg x x", "y", "n", "", "y"),
    ("same neg 4 4", "yyy", "n", "yyy", "n"),
    ("sign 5", "yny", "n", "yny", "n"),
    ("sign 85", "ynynyny", "n", "ynynyny", "n"),
    ("sign 7", "yyy", "n", "yyy", "n"),
    ("sign neg 1", "", "y", "", "y"),
    ("sign neg 4", "nn", "y", "nn", "y"),
    ("either sign 4 nought 4", "yyy", "n", "yyy", "n"),
    ("beneath 1 0", "y", "n", "y", "n"),
    ("beneath 0 1", "n", "y", "n", "y"),
    # Rings.
    ("both same x not twice x sign x", "", "n", "", "yn"),
    ("so same x not twice x sign x", "", "yn", "", "y"),
    ("so same x not twice x never sign x", "", "ny", "", "y"),
    ("so same x twice not x sign x", "", "ny", "", "y"),
    ("both same x add 1 twice twice twice x sign x", "", "n", "", "ynn"),
    ("both same x add 4 twice twice twice x sign x", "", "n", "", "nny"),
    ("either never nought 4 both same x not twice x sign x", "nn", "y", "yn", "y"),
    ("so both same x not twice x same y add 1 twice twice twice y both sign x sign y", "", "ynnnnn", "", "y"),
    ("both both same x not twice x same y odd 1 twice twice twice y either sign x sign y", "", "n", "", "ynyyyn"),
    # Tails that end as the ring does, and such as do not.
    ("both nought and x 1 both same x odd 2 twice twice x sign x", "", "n", "", "ny"),
    ("both nought 1 yes", "", "n", "", "n"),
    ("either nought and 1 1 both same x odd 8 twice twice x sign x", "", "n", "nn", "ny"),
)


def of_signs(tail, ring):
    return tuple(tuple(sign == "y" for sign in signs) for signs in (tail, ring))


def spread(told, many):
    """The truths for the widths from 1 on, so many."""
    tail, ring = told
    return [tail[place] if place < len(tail) else ring[(place - len(tail)) % len(ring)] for place in range(many)]


class WidthsTest(unittest.TestCase):
    def assert_shortest(self, told):
        self.assertEqual([type(told)] + [type(part) for part in told], [tuple] * 3)
        tail, ring = told
        self.assertTrue(all(type(truth) is bool for truth in tail + ring))
        self.assertGreater(len(ring), 0)
        for length in range(1, len(ring)):
            self.assertNotEqual(ring, ring[length:] + ring[:length])
        if tail:
            self.assertNotEqual(tail[-1], ring[-1])

    def assert_spread(self, claim, width, all_holds, some_holds):
        self.assertEqual(spread(for_all(claim), width)[-1], all_holds, (claim, width))
        self.assertEqual(spread(for_some(claim), width)[-1], some_holds, (claim, width))


class ForAllForSomeTest(WidthsTest):
    def test_told(self):
        for text, all_tail, all_ring, some_tail, some_ring in TOLD:
            claim = read_claim(text)
            self.assertEqual(for_all(claim), of_signs(all_tail, all_ring), text)
            self.assertEqual(for_some(claim), of_signs(some_tail, some_ring), text)
            self.assert_shortest(for_all(claim))
            self.assert_shortest(for_some(claim))

    def test_rings_of_inverses(self):
        # At each width just one x makes the product 1; its last bits go round as 2 does at the odd number.
        for text, factor, round_by in (
            ("add x twice x", 3, 2),
            ("add x twice twice x", 5, 4),
            ("sub twice twice twice x x", 7, 3),
            ("add x twice twice twice x", 9, 6),
            ("add x twice add x twice twice x", 11, 10),
            ("add x twice twice add x twice x", 13, 12),
            ("sub twice twice twice twice x x", 15, 4),
            ("add x twice twice twice twice x", 17, 8),
        ):
            expected = [pow(factor, -1, 2**width) >> width - 1 == 1 for width in range(1, 100)]
            some = for_some(read_claim(f"both same {text} 1 sign x"))
            self.assertEqual(spread(some, 99), expected)
            self.assertEqual(len(some[1]), round_by)
            self.assert_shortest(some)
            every = for_all(read_claim(f"so same {text} 1 sign x"))
            self.assertEqual(every, some)
            turned = for_all(read_claim(f"so sign x never same 1 {text}"))
            self.assertEqual(turned, tuple(tuple(not truth for truth in part) for part in some))

    def test_rings_of_rows_that_draw_on_themselves(self):
        for text, places, round_by in (
            ("odd 1 twice odd x twice twice x", (1, 3), 7),
            ("odd 1 twice twice odd x twice x", (2, 3), 7),
            ("odd 1 twice odd x twice twice twice x", (1, 4), 15),
            ("odd 1 twice twice odd x twice twice twice x", (2, 5), 31),
            ("odd 1 twice twice twice odd x twice twice x", (3, 5), 31),
            ("odd 1 twice odd x twice twice twice twice x", (1, 5), 21),
        ):
            bits = [1]
            while len(bits) < 200:
                bits.append(sum(bits[-place] for place in places if place <= len(bits)) % 2)
            some = for_some(read_claim(f"both same x {text} sign x"))
            self.assertEqual(spread(some, 200), [bit == 1 for bit in bits])
            self.assertEqual(len(some[1]), round_by)
            self.assert_shortest(some)

    def test_two_rings_at_once(self):
        # Bits of x by 3, those of y by 2: at least one of them by 6.
        claim = read_claim("both nought or odd x odd 1 twice twice twice x odd y not twice y either sign x sign y")
        expected = [width % 3 == 1 or width % 2 == 1 for width in range(1, 100)]
        self.assertEqual(spread(for_some(claim), 99), expected)
        self.assertEqual(for_some(claim), ((), tuple(expected[:6])))
        # A third of the widths of one, all of the other: what is told goes round by 2 alone.
        claim = read_claim("both nought or odd x odd 1 twice twice twice x odd y not twice y sign y")
        self.assertEqual(for_some(claim), ((), (True, False)))

    def test_tails_ahead_of_rings(self):
        for round_by in (1, 2, 3, 4, 5):
            again = "twice " * round_by
            for high in range(10):
                claim = read_claim(f"both same x odd {2 ** high} {again}x sign x")
                expected = [place >= high and (place - high) % round_by == 0 for place in range(100)]
                self.assertEqual(spread(for_some(claim), 100), expected)
                self.assert_shortest(for_some(claim))
                self.assertEqual(len(for_some(claim)[0]), max(high - round_by + 1, 0))
                self.assertEqual(len(for_some(claim)[1]), round_by)

    def test_tails_on_which_nothing_hangs(self):
        for high in range(10):
            claim = read_claim(f"both same y {2 ** high} both same x odd 1 twice twice twice x sign x")
            self.assertEqual(for_some(claim), of_signs("", "ynn"))
            self.assertEqual(for_all(("never",) + claim), of_signs("", "nyy"))

    def test_drawn_claims_against_all_words(self):
        chance = random.Random(31)
        seen = {}
        for names, widths in (((), 12), (("x",), 7), (("x", "y"), 4), (("a", "b", "c"), 2)):
            for claim in reference.gathered(chance, reference.some_claim, names, 2, 40, 60):
                told = (for_all(claim), for_some(claim))
                self.assert_shortest(told[0])
                self.assert_shortest(told[1])
                self.assertEqual((for_all(claim), for_some(claim)), told)
                seen[told] = True
                for width in range(1, widths + 1):
                    truths = [
                        reference.told(claim, width, values)
                        for values in reference.choices(names_of(claim), width, range(2**width))
                    ]
                    self.assert_spread(claim, width, all(truths), any(truths))
        self.assertGreater(len(seen), 10)

    def test_all_is_never_some_never(self):
        chance = random.Random(32)
        for claim in reference.gathered(chance, reference.some_claim, ("x", "y"), 2, 39, 60):
            tail, ring = for_some(("never",) + claim)
            self.assertEqual(for_all(claim), (tuple(not t for t in tail), tuple(not t for t in ring)))

    def test_at_the_greatest_bounds(self):
        claim = read_claim("either under add x twice y sub z 999 either beneath twice add x y odd z 513 same x low y")
        self.assertEqual(for_some(claim), ((), (True,)))
        told = for_all(claim)
        for width in (1, 2, 3):
            truths = [
                reference.told(claim, width, values)
                for values in reference.choices(("x", "y", "z"), width, range(2**width))
            ]
            self.assertEqual(spread(told, width)[-1], all(truths))


class FailingHoldingTest(WidthsTest):
    def assert_refused(self, ask, claim, width):
        with self.assertRaises(NoWords) as caught:
            ask(claim, width)
        self.assertIs(type(caught.exception), NoWords)

    def assert_first(self, ask, claim, width, expected):
        if expected is None:
            self.assert_refused(ask, claim, width)
        else:
            told = ask(claim, width)
            self.assertIs(type(told), dict)
            self.assertTrue(all(type(word) is int for word in told.values()))
            self.assertEqual(told, expected, (claim, width))

    def assert_against_all_words(self, claim, width):
        names = names_of(claim)
        first = [
            reference.first_choice(names, width, lambda values: reference.told(claim, width, values) is truth)
            for truth in (False, True)
        ]
        self.assert_first(failing, claim, width, first[0])
        self.assert_first(holding, claim, width, first[1])
        self.assert_spread(claim, width, first[0] is None, first[1] is not None)

    def test_written_claims_against_all_words(self):
        for text in (
            "under x y", "under y x", "beneath x y", "beneath y x", "same add x y 5", "nought and x y",
            "both sign x nought and x y", "both sign y under x y", "both under b a under c b", "under twice a b",
            "either same x 0 same x 7", "both never nought x under x low y", "both sign add x y never sign x",
            "never so sign y under x neg y", "both same x not y never sign x", "both under 2 x under x y",
            "same b add a a", "same a add b b", "both sign b same a add b b", "both sign c under a and b c",
        ):
            claim = read_claim(text)
            for width in range(1, 12 // len(names_of(claim)) + 1):
                self.assert_against_all_words(claim, min(width, 5))

    def test_drawn_claims_against_all_words(self):
        chance = random.Random(33)
        for names, widths in (((), (1, 2, 10)), (("x",), (1, 3, 8)), (("x", "y"), (1, 3, 4)), (("a", "b", "c"), (1, 2, 3))):
            for claim in reference.gathered(chance, reference.some_claim, names, 2, 40, 40):
                for width in widths:
                    self.assert_against_all_words(claim, width)

    def test_at_width_sixty(self):
        half, greatest = 2**59, 2**60 - 1
        for text, expected in (
            ("sign x", {"x": half}),
            ("same x neg 1", {"x": greatest}),
            ("same add x y 999", {"x": 0, "y": 999}),
            ("same x not y", {"x": 0, "y": greatest}),
            ("both under y x both under z y sign z", {"x": half + 2, "y": half + 1, "z": half}),
            ("both under x y both under y z sign x", {"x": half, "y": half + 1, "z": half + 2}),
            ("both beneath z y beneath y x", {"x": 0, "y": half + 1, "z": half}),
            ("both sign and x y same z add x y", {"x": half, "y": half, "z": 0}),
            ("same add x twice x 1", {"x": pow(3, -1, 2**60)}),
            ("same add x twice twice x y", {"x": 0, "y": 0}),
            ("both sign x both same y twice x under y z", {"x": half, "y": 0, "z": 1}),
            ("never under x 999", {"x": 999}),
            ("never nought and low x 512", {"x": 512}),
        ):
            claim = read_claim(text)
            self.assertEqual(holding(claim, 60), expected, text)
            self.assertTrue(holds(claim, 60, expected))
            self.assertEqual(failing(("never",) + claim, 60), expected, text)

    def test_no_words(self):
        for text, width in (
            ("under x x", 1), ("under x x", 60), ("never yes", 1), ("never yes", 60), ("under 1 x", 1),
            ("both same x not twice x sign x", 60), ("both same x not twice x sign x", 2), ("under 3 x", 2),
            ("both under x y both under y z under z x", 60), ("sign 512", 9), ("sign 512", 11),
        ):
            claim = read_claim(text)
            self.assert_refused(holding, claim, width)
            self.assert_refused(failing, ("never",) + claim, width)
            self.assertEqual(set(failing(claim, width)), set(names_of(claim)))

    def test_widths_beside_those_without_words(self):
        claim = read_claim("both same x not twice x sign x")
        self.assertEqual(holding(claim, 1), {"x": 1})
        self.assertEqual(holding(claim, 3), {"x": 5})
        self.assertEqual(holding(claim, 59), {"x": sum(4**place for place in range(30))})
        self.assertEqual(holding(read_claim("under 3 x"), 3), {"x": 4})

    def test_no_names(self):
        for width in (1, 9, 10, 11, 60):
            self.assert_first(holding, read_claim("sign 512"), width, {} if width == 10 else None)
            self.assert_first(failing, read_claim("sign 512"), width, None if width == 10 else {})
            self.assert_first(holding, ("yes",), width, {})
            self.assert_first(failing, ("yes",), width, None)

    def test_names_on_which_nothing_hangs(self):
        claim = read_claim("either nought and x 0 sign y")
        self.assertEqual(holding(claim, 60), {"x": 0, "y": 0})
        self.assert_refused(failing, claim, 60)
        claim = read_claim("both nought and b 0 both sign a nought and c 0")
        self.assertEqual(holding(claim, 3), {"a": 4, "b": 0, "c": 0})

    def test_there_are_words_just_where_the_widths_say(self):
        chance = random.Random(34)
        for names in ((), ("x",), ("x", "y"), ("a", "b", "c")):
            for claim in reference.gathered(chance, reference.some_claim, names, 2, 40, 20):
                every, some = spread(for_all(claim), 60), spread(for_some(claim), 60)
                for width in reference.WIDTHS:
                    for ask, there, truth in (
                        (failing, not every[width - 1], False), (holding, some[width - 1], True)
                    ):
                        if not there:
                            self.assert_refused(ask, claim, width)
                            continue
                        words = ask(claim, width)
                        self.assertEqual(tuple(sorted(words)), names_of(claim))
                        self.assertTrue(all(0 <= word < 2**width for word in words.values()))
                        self.assertIs(reference.told(claim, width, words), truth)

    def test_what_is_told_is_the_askers_own(self):
        claim = read_claim("under x y")
        told = holding(claim, 3)
        told["x"] = 7
        told["z"] = 1
        self.assertEqual(holding(claim, 3), {"x": 0, "y": 1})
        empty = holding(("yes",), 3)
        empty["x"] = 1
        self.assertEqual(holding(("yes",), 3), {})


if __name__ == "__main__":
    unittest.main()
