import itertools
import random
import unittest

import reference
from everywidth.claims.claims import claim_shown, holds, read_claim
from everywidth.errors import NoClaim, NoName, NoSum, WidthError
from everywidth.sums.texts import names_of, read_sum

GOOD = (
    "yes", "never yes", "same x y", "under x 1", "beneath 0 x", "sign x", "nought x", "both yes yes",
    "either yes never yes", "so same x y nought sub x y", "nought add x neg x",
    "both same x y either under x y so sign x never yes", "sign pick x not y low z",
    "same 0 0", "under 999 12", "beneath twice abcdefgh neg b", "never never never sign 1", "so yes yes",
)


class ReadClaimTest(unittest.TestCase):
    def assert_refused(self, text):
        with self.assertRaises(WidthError, msg=repr(text)) as caught:
            read_claim(text)
        self.assertIs(type(caught.exception), NoClaim, text)
        self.assertNotIsInstance(caught.exception, NoSum)

    def test_plain_ones(self):
        self.assertEqual(read_claim("yes"), ("yes",))
        self.assertEqual(read_claim("same x 10"), ("same", "x", 10))
        self.assertEqual(read_claim("both sign x never nought add y 1"),
                         ("both", "sign", "x", "never", "nought", "add", "y", 1))
        words = read_claim("under low x 12")
        self.assertIs(type(words), tuple)
        self.assertEqual([type(word) for word in words], [str, str, str, int])

    def test_read_shown_and_read_again(self):
        for text in GOOD:
            with self.subTest(text=text):
                words = read_claim(text)
                self.assertEqual(claim_shown(words), text)
                self.assertEqual(read_claim(claim_shown(words)), words)

    def test_shown(self):
        self.assertEqual(claim_shown(("yes",)), "yes")
        self.assertEqual(claim_shown(("so", "same", "x", 0, "sign", "not", "abcdefgh")), "so same x 0 sign not abcdefgh")

    def test_claims_by_chance_shown_and_read_again(self):
        chance = random.Random(7)
        for words in reference.gathered(chance, reference.some_claim, ("x", "y", "z"), 3, 40, 200):
            self.assertEqual(read_claim(claim_shown(words)), words)

    def test_all_short_rows(self):
        vocabulary = ("x", "7", "not", "add", "same", "sign", "both", "never", "yes")
        read = 0
        for length in range(1, 6):
            for words in itertools.product(vocabulary, repeat=length):
                text = " ".join(words)
                if reference.claim_end(words, 0, "claim") == length:
                    read += 1
                    self.assertEqual(read_claim(text), tuple(7 if word == "7" else word for word in words))
                else:
                    self.assert_refused(text)
        self.assertEqual(read, 1 + 3 + 10 + 30 + 101)

    def test_each_word_with_its_parts(self):
        for word, parts in reference.SUMS_IN_CLAIM.items():
            for many in range(5):
                text = " ".join([word] + ["x", "7", "y", "0"][:many])
                if many == parts:
                    self.assertEqual(claim_shown(read_claim(text)), text)
                else:
                    self.assert_refused(text)
        for word, parts in reference.CLAIMS_IN_CLAIM.items():
            for many in range(5):
                text = " ".join([word] + ["yes", "sign x", "yes", "same 0 1"][:many])
                if many == parts:
                    self.assertEqual(claim_shown(read_claim(text)), text)
                else:
                    self.assert_refused(text)

    def test_a_sum_alone_is_no_claim(self):
        for text in ("x", "0", "7", "not x", "add x y", "pick x y z", "add x 1", "low 12"):
            self.assert_refused(text)
            self.assertTrue(read_sum(text))

    def test_sums_in_the_place_of_claims(self):
        for word in ("both", "either", "so"):
            for parts in ("x y", "x yes", "yes x", "yes 0", "0 yes", "not x yes", "yes not yes", "yes add x y"):
                self.assert_refused(word + " " + parts)
        for text in ("never x", "never 0", "never not x", "never add x y"):
            self.assert_refused(text)

    def test_claims_in_the_place_of_sums(self):
        for word in ("same", "under", "beneath"):
            for parts in ("yes yes", "x yes", "yes x", "never yes x", "same x y z", "x sign y", "not yes x",
                          "add x yes 1"):
                self.assert_refused(word + " " + parts)
        for text in ("sign yes", "nought yes", "sign never yes", "nought sign x", "sign same x y", "nought not yes",
                     "sign add yes 1", "nought pick yes x y"):
            self.assert_refused(text)

    def test_what_is_wrong_in_a_sum_of_it(self):
        wrong = ("00", "01", "007", "-1", "+1", "1.0", "1x", "x1", "abcdefghi", "X", "Not", "xy_", "", "add", "x,",
                 "(x)", "0999", "1e3", "\u0660", "\u00e4", "\u00b2")
        for part in wrong:
            for text in (f"sign {part}", f"nought not {part}", f"same {part} x", f"same x {part}",
                         f"both yes sign {part}", f"both sign {part} yes", f"never under add x {part} y"):
                self.assert_refused(text)
        for text in ("sign not", "same x", "same x not", "nought add x", "sign add x y z", "nought pick x y"):
            self.assert_refused(text)

    def test_words_lacking_or_too_many(self):
        for text in ("yes yes", "never", "both", "both yes", "both yes yes yes", "so yes", "yes x", "x yes", "yes 0",
                     "never yes yes", "sign x y", "sign x sign", "same x y yes", "yes never", "nought x x"):
            self.assert_refused(text)

    def test_words_that_are_none(self):
        for text in ("no", "true", "false", "Yes", "YES", "equal x y", "less x y", "and yes yes", "or yes yes",
                     "not yes", "not sign x", "yesno", "signx", "bothx yes yes", "same,x,y"):
            self.assert_refused(text)

    def test_empty_and_blank_texts(self):
        for text in ("", " ", "  ", "\n", " \n", "\t"):
            self.assert_refused(text)

    def test_blanks_and_line_ends(self):
        for text in ("yes", "never yes", "same x 1", "both sign x yes"):
            for sign in (" ", "\n", "\t", "\r"):
                for place in range(len(text) + 1):
                    if sign != " " or place == 0 or place == len(text) or " " in text[place - 1:place + 1]:
                        self.assert_refused(text[:place] + sign + text[place:])
        for text in ("never\nyes", "same\nx\ny", "same x\ny", "never\tyes"):
            self.assert_refused(text)

    def test_other_signs(self):
        for code in range(33, 127):
            sign = chr(code)
            if not ("a" <= sign <= "z" or "0" <= sign <= "9"):
                for text in (sign, "yes" + sign, sign + "yes", "never " + sign, "sign " + sign, "sign x" + sign):
                    self.assert_refused(text)

    def test_deep_and_long_claims(self):
        for depth in (39, 60, 600):
            self.assertEqual(read_claim("never " * depth + "yes"), ("never",) * depth + ("yes",))
            self.assertEqual(read_claim("both " * depth + "yes" + " yes" * depth), ("both",) * depth + ("yes",) * (depth + 1))
            self.assertEqual(read_claim("sign " + "not " * depth + "x"), ("sign",) + ("not",) * depth + ("x",))
            self.assert_refused("never " * depth + "never")
            self.assert_refused("both " * depth + "yes" + " yes" * (depth - 1))
            self.assert_refused("both " * depth + "yes" + " yes" * (depth + 1))
            self.assert_refused("never " * depth + "x")

    def test_more_than_the_bounds_is_read(self):
        text = "both " * 4 + " ".join(["same x 1000"] * 5)
        self.assertEqual(claim_shown(read_claim(text)), text)

    def test_asked_again(self):
        for text in GOOD:
            self.assertEqual(read_claim(text), read_claim(text))

    def test_names(self):
        self.assertEqual(names_of(read_claim("both same z y so sign add x z yes")), ("x", "y", "z"))
        self.assertEqual(names_of(read_claim("never yes")), ())
        self.assertEqual(names_of(read_claim("same 0 1")), ())


# At width 3: the claim, the words of x and y, whether it holds.
PLAIN = (
    ("same x y", (3, 3), True),
    ("same x y", (3, 2), False),
    ("same x 8", (0, 0), True),
    ("under x y", (2, 3), True),
    ("under x y", (3, 3), False),
    ("under x y", (3, 2), False),
    ("under x y", (3, 4), True),
    ("beneath x y", (3, 4), False),
    ("beneath x y", (4, 3), True),
    ("beneath x y", (7, 0), True),
    ("beneath x y", (0, 7), False),
    ("beneath x y", (4, 7), True),
    ("beneath x y", (7, 4), False),
    ("beneath x y", (4, 4), False),
    ("beneath x y", (1, 2), True),
    ("sign x", (3, 0), False),
    ("sign x", (4, 0), True),
    ("sign x", (7, 0), True),
    ("nought x", (0, 0), True),
    ("nought x", (4, 0), False),
    ("nought add x y", (5, 3), True),
    ("yes", (0, 0), True),
    ("never yes", (0, 0), False),
    ("never sign x", (3, 0), True),
    ("both sign x sign y", (4, 4), True),
    ("both sign x sign y", (4, 0), False),
    ("both sign x sign y", (0, 4), False),
    ("both sign x sign y", (0, 0), False),
    ("either sign x sign y", (4, 4), True),
    ("either sign x sign y", (4, 0), True),
    ("either sign x sign y", (0, 4), True),
    ("either sign x sign y", (0, 0), False),
    ("so sign x sign y", (4, 4), True),
    ("so sign x sign y", (4, 0), False),
    ("so sign x sign y", (0, 4), True),
    ("so sign x sign y", (0, 0), True),
)


class HoldsTest(unittest.TestCase):
    def test_plain_ones(self):
        for text, words, expected in PLAIN:
            with self.subTest(text=text, words=words):
                self.assertIs(holds(read_claim(text), 3, dict(zip("xy", words))), expected)

    def test_each_word_about_sums_at_many_widths(self):
        for width in reference.WIDTHS:
            for word, parts in reference.SUMS_IN_CLAIM.items():
                names = ("x", "y")[:parts]
                for values in reference.choices(names, width, reference.edge_words(width)):
                    claim = (word,) + names
                    self.assertIs(holds(claim, width, values), reference.told(claim, width, values), (claim, values))

    def test_each_word_by_all_words_of_small_widths(self):
        for width in (1, 2, 3, 4):
            for word, parts in reference.SUMS_IN_CLAIM.items():
                names = ("x", "y")[:parts]
                for values in reference.choices(names, width, range(2**width)):
                    claim = (word,) + names
                    self.assertIs(holds(claim, width, values), reference.told(claim, width, values), (claim, values))

    def test_each_word_about_claims_at_many_widths(self):
        for width in reference.WIDTHS:
            for word, parts in reference.CLAIMS_IN_CLAIM.items():
                claim = (word,) + ("sign", "x", "nought", "y")[:2 * parts]
                for values in reference.choices(("x", "y"), width, reference.edge_words(width)):
                    self.assertIs(holds(claim, width, values), reference.told(claim, width, values), (claim, values))

    def test_edges_in_figures(self):
        for width in range(1, 61):
            values = {"h": 2 ** (width - 1), "g": 2**width - 1, "n": 0}
            for text in ("sign h", "sign g", "nought n", "same g neg 1", "same h neg h", "beneath h n", "beneath g n",
                         "never sign n", "never nought h", "never under g n", "under n h", "never beneath n g",
                         "so sign n yes", "nought twice h", "never beneath g h"):
                self.assertIs(holds(read_claim(text), width, values), True, (text, width))

    def test_claims_by_chance(self):
        chance = random.Random(8)
        for claim in reference.gathered(chance, reference.some_claim, ("x", "y", "z"), 3, 40, 300):
            for width in (1, 2, 7, 33, 60):
                values = {name: chance.choice(reference.edge_words(width)) for name in ("x", "y", "z")}
                self.assertIs(holds(claim, width, values), reference.told(claim, width, values), (claim, values))

    def test_deep_claims(self):
        for depth in (39, 60, 1500):
            self.assertIs(holds(("never",) * depth + ("yes",), 4, {}), depth % 2 == 0)
            self.assertIs(holds(("both",) * depth + ("yes",) * (depth + 1), 4, {}), True)


class NamesTest(unittest.TestCase):
    def assert_lacks(self, text, values, name):
        with self.assertRaises(NoName, msg=text) as caught:
            holds(read_claim(text), 4, values)
        self.assertEqual(caught.exception.word, name)

    def test_the_first_in_the_words_order(self):
        self.assert_lacks("sign x", {}, "x")
        self.assert_lacks("same z x", {}, "z")
        self.assert_lacks("same z x", {"z": 0}, "x")
        self.assert_lacks("both under c b nought a", {}, "c")
        self.assert_lacks("both under c b nought a", {"c": 1, "a": 1}, "b")
        self.assert_lacks("both under c b nought a", {"c": 1, "b": 1}, "a")

    def test_also_where_the_part_does_not_matter(self):
        self.assert_lacks("either yes sign x", {}, "x")
        self.assert_lacks("both never yes sign x", {}, "x")
        self.assert_lacks("so never yes nought x", {}, "x")
        self.assert_lacks("so nought x yes", {}, "x")
        self.assert_lacks("same x x", {"y": 0}, "x")
        self.assert_lacks("nought and 0 x", {"y": 0}, "x")
        self.assert_lacks("either same 0 0 under y x", {"y": 0}, "x")

    def test_other_names_too(self):
        values = {"y": 3, "x": 5, "zz": 15}
        self.assertIs(holds(read_claim("same x 5"), 4, values), True)
        self.assertIs(holds(read_claim("yes"), 4, values), True)
        self.assertEqual(list(values.items()), [("y", 3), ("x", 5), ("zz", 15)])

    def test_the_dict_is_not_changed(self):
        values = {"y": 3, "x": 5}
        self.assertIs(holds(read_claim("under x y"), 4, values), False)
        with self.assertRaises(NoName):
            holds(read_claim("under x q"), 4, values)
        self.assertEqual(list(values.items()), [("y", 3), ("x", 5)])

    def test_asked_again(self):
        claim = read_claim("either under x y sign low x")
        values = {"x": 5, "y": 6}
        self.assertIs(holds(claim, 3, values), True)
        values["y"] = 2
        self.assertIs(holds(claim, 3, values), False)
        values["y"] = 6
        self.assertIs(holds(claim, 3, values), True)


if __name__ == "__main__":
    unittest.main()
