import itertools
import unittest

from everywidth.errors import NoSum
from everywidth.sums.texts import names_of, read_sum, sum_shown

PARTS = {
    "not": 1, "neg": 1, "twice": 1, "low": 1,
    "and": 2, "or": 2, "odd": 2, "add": 2, "sub": 2,
    "pick": 3,
}
CLAIM_WORDS = ("same", "under", "beneath", "sign", "nought", "both", "either", "so", "never", "yes")


def sum_end(words, begin):
    """The place behind the sum that begins there, or None: told by the shape alone."""
    if begin is None or begin >= len(words):
        return None
    place = begin + 1
    for part in range(PARTS.get(words[begin], 0)):
        place = sum_end(words, place)
    return place


class ReadSumTest(unittest.TestCase):
    def assert_refused(self, text):
        with self.assertRaises(NoSum, msg=repr(text)):
            read_sum(text)

    def test_plain_ones(self):
        self.assertEqual(read_sum("x"), ("x",))
        self.assertEqual(read_sum("0"), (0,))
        self.assertEqual(read_sum("add x 1"), ("add", "x", 1))
        self.assertEqual(read_sum("and x neg x"), ("and", "x", "neg", "x"))
        self.assertEqual(read_sum("pick x add y 10 not z"), ("pick", "x", "add", "y", 10, "not", "z"))

    def test_each_word_with_its_parts(self):
        for word, parts in PARTS.items():
            for many in range(6):
                text = " ".join([word] + ["x", "7", "y", "0", "z"][:many])
                with self.subTest(text=text):
                    if many == parts:
                        self.assertEqual(sum_shown(read_sum(text)), text)
                    else:
                        self.assert_refused(text)

    def test_all_short_rows(self):
        vocabulary = ("x", "7", "not", "add", "pick")
        read = 0
        for length in range(1, 7):
            for words in itertools.product(vocabulary, repeat=length):
                text = " ".join(words)
                if sum_end(words, 0) == length:
                    read += 1
                    self.assertEqual(read_sum(text), tuple(7 if word == "7" else word for word in words))
                else:
                    self.assert_refused(text)
        self.assertEqual(read, 2 + 2 + 6 + 22 + 74 + 282)

    def test_the_row_is_a_tuple_of_texts_and_whole_numbers(self):
        words = read_sum("sub low x 12")
        self.assertIs(type(words), tuple)
        self.assertEqual([type(word) for word in words], [str, str, str, int])

    def test_names(self):
        names = (
            "a", "z", "q", "abcdefgh", "zzzzzzzz", "nota", "notnot", "anda", "ora", "oddly", "adder", "subs",
            "picks", "lowest", "negs", "twicex", "yesno", "sox", "samex", "underx", "signs", "noughtx", "bothx",
            "eitherx", "neverx", "beneathx", "no", "ye", "pic", "s", "truth", "width",
        )
        for name in names:
            with self.subTest(name=name):
                self.assertEqual(read_sum(name), (name,))
                self.assertEqual(read_sum("not " + name), ("not", name))

    def test_numbers(self):
        for number in list(range(1000)) + [1000, 4096, 1234567]:
            self.assertEqual(read_sum(str(number)), (number,))
            self.assertEqual(read_sum(f"add {number} x"), ("add", number, "x"))

    def test_deep_sums(self):
        for depth in (23, 60, 900):
            with self.subTest(depth=depth):
                self.assertEqual(read_sum("not " * depth + "x"), ("not",) * depth + ("x",))
                self.assertEqual(read_sum("add " * depth + "x" + " 1" * depth), ("add",) * depth + ("x",) + (1,) * depth)
                self.assertEqual(read_sum("add x " * depth + "1"), ("add", "x") * depth + (1,))
                self.assert_refused("not " * depth + "not")
                self.assert_refused("add " * depth + "x" + " 1" * (depth - 1))
                self.assert_refused("add " * depth + "x" + " 1" * (depth + 1))

    def test_long_texts(self):
        text = "not " * 999 + "abcd"
        self.assertEqual(len(text), 4000)
        self.assertEqual(read_sum(text), ("not",) * 999 + ("abcd",))

    def test_empty_and_blank_texts(self):
        for text in ("", " ", "  ", "\n", " \n"):
            self.assert_refused(text)

    def test_words_lacking_or_too_many(self):
        for text in ("not", "add", "add x", "pick x y", "x y", "0 0", "add x y z", "not x y", "pick x y z x",
                     "x not", "x add", "add not x", "pick pick x y z x", "1 add x y"):
            self.assert_refused(text)

    def test_words_of_claims(self):
        for word in CLAIM_WORDS:
            for text in (word, word + " x", word + " x y", "not " + word, "add x " + word, "add " + word + " x",
                         "x " + word):
                self.assert_refused(text)
        for text in ("same x y", "both yes yes", "never yes", "sign x", "nought 0", "add yes 1"):
            self.assert_refused(text)

    def test_names_too_long(self):
        for name in ("abcdefghi", "zzzzzzzzz", "beneathxy", "a" * 100, "noughtnot"):
            self.assert_refused(name)
            self.assert_refused("not " + name)

    def test_other_signs(self):
        signs = [chr(code) for code in range(32, 127) if not ("a" <= chr(code) <= "z" or chr(code) == " ")]
        for sign in signs + ["\n", "\t", "\r", "\0", "\u00a0", "\u00e4", "\u0660", "\u00b2", "\uff11"]:
            for text in (sign + "x", "x" + sign, "x" + sign + "y", "add x y" + sign, "not" + sign + " x"):
                self.assert_refused(text)
            if not "0" <= sign <= "9":
                for text in (sign, "not " + sign, "add x " + sign, sign + "1", "1" + sign, "1" + sign + "1"):
                    self.assert_refused(text)

    def test_words_in_great_letters(self):
        for text in ("X", "Add x y", "ADD x y", "NOT x", "add X y"):
            self.assert_refused(text)

    def test_numbers_that_are_none(self):
        for figures in ("00", "01", "007", "0999", "0000", "-1", "+1", "-0", "+0", "1.0", "1e3", "0x1", "1_0", "1x",
                        "x1", "--1", "0b1"):
            self.assert_refused(figures)
            self.assert_refused("not " + figures)
            self.assert_refused("add " + figures + " x")
            self.assert_refused("add x " + figures)

    def test_blanks(self):
        for text in ("x", "7", "not x", "add x 1", "pick x y z"):
            self.assert_refused(" " + text)
            self.assert_refused(text + " ")
            self.assert_refused("  " + text)
            self.assert_refused(text + "  ")
        for text in ("not  x", "add  x y", "add x  y", "add   x y", "pick x y  z"):
            self.assert_refused(text)

    def test_line_ends_and_tabs(self):
        for text in ("x", "7", "not x", "add x 1", "pick x y z"):
            for place in range(len(text) + 1):
                for sign in ("\n", "\t", "\r", "\n\n"):
                    self.assert_refused(text[:place] + sign + text[place:])
            self.assert_refused(text.replace(" ", "\n") + "\n")
        for text in ("not\nx", "add\nx\n1", "add x\n1", "not\tx"):
            self.assert_refused(text)

    def test_words_that_are_none(self):
        for text in ("x,y", "(x)", "add(x,y)", "x+y", "not-x", "~x", "add, x y", "notx y", "add xy"):
            self.assert_refused(text)


class ShownTest(unittest.TestCase):
    def test_plain_ones(self):
        self.assertEqual(sum_shown(("x",)), "x")
        self.assertEqual(sum_shown((0,)), "0")
        self.assertEqual(sum_shown(("add", "x", 999)), "add x 999")
        self.assertEqual(sum_shown(("pick", "x", 10, "low", "abcdefgh")), "pick x 10 low abcdefgh")

    def test_read_shown_and_read_again(self):
        texts = ["x", "0", "999", "not x", "pick pick x y z add 1 2 sub 3 low neg twice w",
                 "not " * 23 + "x", "odd or and x y z 12", "add " * 11 + "x" + " 1" * 11]
        for text in texts:
            with self.subTest(text=text):
                words = read_sum(text)
                self.assertEqual(sum_shown(words), text)
                self.assertEqual(read_sum(sum_shown(words)), words)


class NamesTest(unittest.TestCase):
    def test_sorted_and_each_once(self):
        self.assertEqual(names_of(read_sum("add z add y add x add y z")), ("x", "y", "z"))
        self.assertEqual(names_of(read_sum("sub b sub aa sub ab a")), ("a", "aa", "ab", "b"))
        self.assertEqual(names_of(("x",)), ("x",))
        self.assertEqual(names_of(("and", "x", "x")), ("x",))

    def test_sums_without_names(self):
        self.assertEqual(names_of((0,)), ())
        self.assertEqual(names_of(("add", 1, "not", 999)), ())
        self.assertIs(type(names_of((0,))), tuple)

    def test_words_of_sums_are_no_names(self):
        for word, parts in PARTS.items():
            self.assertEqual(names_of((word,) + ("q",) * parts), ("q",))

    def test_words_of_claims_are_no_names(self):
        self.assertEqual(names_of(("yes",)), ())
        self.assertEqual(names_of(("both", "same", "y", "x", "never", "sign", "add", "y", 1)), ("x", "y"))
        self.assertEqual(names_of(("either", "under", "b", 3, "so", "beneath", "a", "b", "nought", "c")), ("a", "b", "c"))

    def test_names_that_begin_with_a_word(self):
        self.assertEqual(names_of(("add", "notx", "yesno")), ("notx", "yesno"))

    def test_the_same_is_answered_the_same(self):
        words = ("add", "y", "sub", "x", 1)
        self.assertEqual(names_of(words), names_of(words))
        self.assertEqual(sum_shown(words), sum_shown(words))
        self.assertEqual(read_sum("add y sub x 1"), words)
        self.assertEqual(words, ("add", "y", "sub", "x", 1))


if __name__ == "__main__":
    unittest.main()
