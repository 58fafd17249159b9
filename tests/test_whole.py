import random
import unittest

import reference
from everywidth.claims.counts import count, rule
from everywidth.claims.widths import failing, for_all, for_some, holding
from everywidth.errors import NoAsk, NoClaim, NoName, NoSum, NoTurning, NoWords
from everywidth.machines.alike import compared
from everywidth.machines.least import least
from everywidth.machines.made import claim_machine, machine_of
from everywidth.sums.texts import names_of, sum_shown
from everywidth.sums.turns import led, steps
from everywidth.whole import Desk

LINES = ("sum", "claim", "show", "same", "worth", "all", "some", "fail", "hold", "count", "rule", "states", "steps", "turn")

# Lines that are none on a desk with the sums a, b, e and the claims k, l, m.
NO_LINES = (
    # None at all, words lacking, words too many.
    "", " ", "  ", "-", "0", "a", "k", "x y", "add x y", "ask a", "help", "Show a", "SHOW a", "sums a x", "shows a",
    "show", "show ", "show a b", "show a ", "show a a", "show a 3",
    "sum", "sum ", "sum q", "sum a", "claim", "claim ", "claim q", "claim k",
    "same", "same ", "same a", "same a ", "same a b a", "same a b ", "same a b 3",
    "worth", "worth ", "worth a", "worth a ", "worth a 3 x", "worth a 3 x 1 y", "worth a 3 ", "worth a 3 x 1 y 2 ",
    "worth a 3 x 1 y 2 z", "worth e", "worth e 3 3", "worth e 3 ",
    "all", "all ", "all k 3", "all k ", "all k l", "some", "some ", "some k 3", "some k l", "some k ",
    "fail", "fail k", "fail k ", "fail k 3 3", "fail k 3 ", "hold", "hold k", "hold k ", "hold k 3 x", "hold k 3 ",
    "count", "count k", "count k ", "count k 3 3", "count k 3 ", "rule", "rule ", "rule k 3", "rule k ",
    "states", "states ", "states a b", "states a ", "steps", "steps ", "steps a -", "steps a ",
    "turn", "turn a", "turn a -", "turn a - ", "turn a addboth", "turn a - addboth -", "turn a - addboth ",
    # Blanks doubled, ahead or of another kind.
    " show a", "show  a", "  show a", "sum  q x", "claim  q yes", "same  a b", "same a  b", "worth  a 3 x 1 y 2",
    "worth a  3 x 1 y 2", "worth a 3  x 1 y 2", "worth a 3 x  1 y 2", "worth a 3 x 1  y 2", "fail  k 3", "fail k  3",
    "turn  a - addboth", "turn a  - addboth", "turn a -  addboth", "all  k", " sum q x", "rule  k", "count k  3",
    "show\ta", "sum\tq x", "sum q\tx", "same a\tb",
    # Line ends.
    "\n", "show a\n", "\nshow a", "show\na", "show a\nshow b", "all k\n", "same a b\n", "fail k 3\n", "steps a\n",
    "turn a - addboth\n", "turn a\n- addboth", "worth a 3 x 1 y 2\n", "worth a 3\nx 1 y 2", "sum q\nx", "sum\nq x",
    "sum q\n x", "claim\nq yes", "rule k\n", "states a\n", "count k 3\n",
    # Names that are none.
    "sum Q x", "sum q1 x", "sum 1 x", "sum q_ x", "sum - x", "sum add x", "sum pick x", "sum same x", "sum yes x",
    "sum never x", "sum sign x", "sum nought x", "sum low x", "sum abcdefghi x", "claim K yes", "claim k1 yes",
    "claim so yes", "claim both yes", "claim under yes", "claim not yes", "claim abcdefghi yes", "show A", "show 0",
    "worth a 3 X 1 y 2", "worth a 3 x1 1 y 2", "worth a 3 x 1 y 2 add 3", "worth a 3 x 1 y 2 yes 3",
    "worth a 3 x 1 y 2 1 3", "worth a 3 x 1 y 2 abcdefghi 3", "worth a 3 1 x 2 y", "worth k 3 x 1 y 2 same 3",
    # Names that are not there.
    "show q", "show add", "show x", "same a q", "same q a", "same q q", "worth q 3 x 1 y 2", "all q", "some q", "fail q 3",
    "hold q 3", "count q 3", "rule q", "states q", "steps q", "turn q - addboth", "states x",
    # Names of the other kind.
    "same a k", "same k a", "same k k", "all a", "some a", "fail a 3", "hold a 3", "count a 3", "rule a", "steps k",
    "turn k - addboth", "all e", "count e 3",
    # Widths that are none.
    "worth a 0 x 0 y 0", "worth a 61 x 0 y 0", "worth a 03 x 1 y 2", "worth a -3 x 1 y 2", "worth a +3 x 1 y 2",
    "worth a w x 1 y 2", "worth a 3. x 1 y 2", "worth a x 1 y 2", "worth e 0", "worth e 61", "worth e 01", "worth e x",
    "worth a 99999999999999999999 x 0 y 0", "fail k 0", "fail k 61", "fail k 060", "fail k 00", "fail k -1", "fail k x",
    "hold k 0", "hold k 61", "hold k 01", "hold k -1", "hold k 1_0", "count k 0", "count k 61", "count k 07", "count k w",
    "count k 1e1", "count k 99999999999999999999",
    # Words that are none at the width, or twice a name.
    "worth a 3 x 8 y 0", "worth a 3 x 0 y 8", "worth a 1 x 2 y 0", "worth a 60 x 1152921504606846976 y 0",
    "worth a 3 x -1 y 0", "worth a 3 x 01 y 0", "worth a 3 x 00 y 0", "worth a 3 x +1 y 0", "worth a 3 x y y x",
    "worth a 3 x 1 x 1", "worth a 3 x 1 x 2", "worth a 3 x 1 y 2 x 1", "worth a 3 x 1 y 2 z 3 z 3",
    "worth a 3 x 1 y 2 z 8", "worth a 3 x 1 y 2 z 01", "worth k 3 x 8 y 0", "worth k 3 x 1 x 1", "worth e 3 x 8",
    # Where a name lacks and something else is no part, it is the line that is refused.
    "worth a 3 x 8", "worth a 0 x 1", "worth a 3 z 1 z 1", "worth k 61", "worth a 61",
    # Paths and rules that are none.
    "turn a addboth -", "turn a . addboth", "turn a 0. addboth", "turn a .0 addboth", "turn a 0..0 addboth",
    "turn a -1 addboth", "turn a 0.-1 addboth", "turn a 00 addboth", "turn a 0.01 addboth", "turn a 1.00 addboth",
    "turn a x addboth", "turn a 0,1 addboth", "turn a -- addboth", "turn a -.0 addboth", "turn a +0 addboth",
    "turn a () addboth", "turn a - add", "turn a - none", "turn a - addBoth", "turn a - ADDBOTH", "turn a - addbot",
    "turn a - addboths", "turn a - -", "turn a 0 x", "turn a 9 none", "turn a 0.0.0 none", "turn a - addboth,orsum",
)


class DeskTest(unittest.TestCase):
    def setUp(self):
        self.desk = Desk()
        for line in (
            "sum a add x y", "sum b or x y", "sum e add 1 999", "claim k under x y", "claim l yes",
            "claim m both same x not twice x sign x",
        ):
            self.assert_told(line, [])

    def assert_told(self, line, rows, desk=None):
        told = (desk or self.desk).ask(line)
        self.assertIs(type(told), list)
        self.assertEqual(told, rows, line)
        self.assertTrue(all(type(row) is str for row in told))

    def assert_refused(self, kind, line, desk=None):
        with self.assertRaises(kind, msg=line) as caught:
            (desk or self.desk).ask(line)
        self.assertIs(type(caught.exception), kind, line)
        return caught.exception

    def shown(self, desk=None):
        rows = []
        for name in ("a", "b", "e", "k", "l", "m"):
            rows.extend((desk or self.desk).ask(f"show {name}"))
        return rows


class LinesTest(DeskTest):
    def test_put_and_show(self):
        self.assertEqual(
            self.shown(), ["add x y", "or x y", "add 1 999", "under x y", "yes", "both same x not twice x sign x"]
        )
        self.assert_told("sum long pick x not y 999", [])
        self.assert_told("show long", ["pick x not y 999"])
        self.assert_told("sum abcdefgh 0", [])
        self.assert_told("show abcdefgh", ["0"])

    def test_one_put_in_the_place_of_another(self):
        self.assert_told("sum a sub x y", [])
        self.assert_told("show a", ["sub x y"])
        self.assert_told("claim a sign x", [])
        self.assert_told("show a", ["sign x"])
        self.assert_refused(NoAsk, "steps a")
        self.assert_told("some a", ["", "y"])
        self.assert_told("sum a neg x", [])
        self.assert_told("steps a", ["- negnot"])
        self.assert_refused(NoAsk, "some a")
        self.assert_told("sum k x", [])
        self.assert_told("show k", ["x"])

    def test_same(self):
        self.assert_told("same a a", ["same"])
        self.assert_told("sum c add odd x y twice and x y", [])
        self.assert_told("same a c", ["same"])
        self.assert_told("same c a", ["same"])
        self.assert_told("same a b", ["1", "x 1", "y 1"])
        self.assert_told("sum d or x and 512 zz", [])
        self.assert_told("sum x or x and 0 aa", [])
        self.assert_told("same d x", ["10", "aa 0", "x 0", "zz 512"])
        self.assert_told("sum f 1000", [])
        self.assert_told("same e f", ["same"])
        self.assert_told("sum f 488", [])
        self.assert_told("same e f", ["10"])

    def test_worth(self):
        self.assert_told("worth a 3 x 7 y 2", ["1"])
        self.assert_told("worth a 3 y 7 x 2", ["1"])
        self.assert_told("worth a 60 x 1152921504606846975 y 1152921504606846975", ["1152921504606846974"])
        self.assert_told("worth a 1 x 1 y 0", ["1"])
        self.assert_told("worth a 3 x 7 y 2 z 5 abcdefgh 7", ["1"])
        self.assert_told("worth e 60", ["1000"])
        self.assert_told("worth e 5", ["8"])
        self.assert_told("worth e 5 x 31", ["8"])
        self.assert_told("worth k 3 x 1 y 2", ["yes"])
        self.assert_told("worth k 3 x 2 y 1", ["no"])
        self.assert_told("worth k 3 y 1 x 0 q 3", ["yes"])
        self.assert_told("worth l 1", ["yes"])
        self.assert_told("worth m 2 x 1", ["no"])
        self.assert_told("worth a 3 x 0 y 0 sum 1 show 2 worth 3", ["0"])

    def test_all_and_some(self):
        self.assert_told("all k", ["", "n"])
        self.assert_told("some k", ["", "y"])
        self.assert_told("all l", ["", "y"])
        self.assert_told("some m", ["", "yn"])
        self.assert_told("claim n nought twice twice x", [])
        self.assert_told("all n", ["yy", "n"])
        self.assert_told("claim n both same add x twice twice x 1 sign x", [])
        self.assert_told("some n", ["y", "nyyn"])
        self.assert_told("claim n never nought 512", [])
        self.assert_told("all n", ["nnnnnnnnn", "y"])
        self.assert_told("some n", ["nnnnnnnnn", "y"])

    def test_fail_and_hold(self):
        self.assert_told("fail k 1", ["x 0", "y 0"])
        self.assert_told("hold k 60", ["x 0", "y 1"])
        self.assert_told("hold l 60", [])
        self.assert_refused(NoWords, "fail l 60")
        self.assert_told("hold m 3", ["x 5"])
        self.assert_refused(NoWords, "hold m 4")
        self.assert_told("fail m 4", ["x 0"])
        self.assert_told("claim n both under y x both sign z under z y", [])
        self.assert_told("hold n 60", ["x 576460752303423490", "y 576460752303423489", "z 576460752303423488"])

    def test_count_and_rule(self):
        self.assert_told("count k 1", ["1"])
        self.assert_told("count k 60", [str(2**59 * (2**60 - 1))])
        self.assert_told("count l 60", ["1"])
        self.assert_told("rule k", ["1 6", "6 -8"])
        self.assert_told("rule l", ["1", "1"])
        self.assert_told("rule m", ["1 0", "0 1"])
        self.assert_told("claim n never yes", [])
        self.assert_told("rule n", ["", ""])
        self.assert_told("count n 7", ["0"])
        self.assert_told("claim n sign 4", [])
        self.assert_told("rule n", ["0 0 1", "0 0 0"])

    def test_states(self):
        self.assert_told("states a", ["2"])
        self.assert_told("states b", ["1"])
        self.assert_told("states e", ["11"])
        self.assert_told("states k", ["2"])
        self.assert_told("states l", ["1"])
        self.assert_told("states m", ["3"])

    def test_steps_and_turn(self):
        self.assert_told("steps a", ["- addboth", "- orsum", "- oddsum"])
        self.assert_told("turn a - oddsum", [])
        self.assert_told("show a", ["add odd x y twice and x y"])
        self.assert_told(
            "steps a",
            ["- addboth", "- orsum", "- oddsum", "0 addboth", "0 oddor", "1 twiceadd", "1.0 addboth"],
        )
        self.assert_told("turn a 1.0 addboth", [])
        self.assert_told("turn a 0 oddor", [])
        self.assert_told("show a", ["add and or x y not and x y twice and y x"])
        self.assert_told("turn a 0.1 notand", [])
        self.assert_told("show a", ["add and or x y or not x not y twice and y x"])
        self.assert_told("same a a", ["same"])
        self.assert_told("worth a 8 x 201 y 99", ["44"])
        self.assert_told("sum q x", [])
        self.assert_told("steps q", [])

    def test_a_turn_that_does_not_fit(self):
        for line in (
            "turn a - subneg", "turn a 0 addboth", "turn a 1 addboth", "turn a 2 addboth", "turn a 0.0 addboth",
            "turn a 99999999999999999999 addboth", "turn b - orsum", "turn e - zeroadd", "turn a 1.1.1.1 notnot",
        ):
            before = self.shown()
            self.assert_refused(NoTurning, line)
            self.assertEqual(self.shown(), before)


class RefusalsTest(DeskTest):
    def test_lines_that_are_none(self):
        for line in NO_LINES:
            before = self.shown()
            self.assert_refused(NoAsk, line)
            self.assertEqual(self.shown(), before)
            for name in ("q", "x", "add", "abcdefghi"):
                self.assert_refused(NoAsk, f"show {name}")

    def test_texts_that_are_no_sums(self):
        for text in (
            "add x", "add x y z", "X", "01", "yes", "same x y", "-1", "x\n", "add  x y", "add x y ", "x,y", "abcdefghi", "",
            " x", " ",
        ):
            self.assert_refused(NoSum, f"sum a {text}")
            self.assert_refused(NoSum, f"sum q {text}")
            self.assert_refused(NoSum, f"sum k {text}")
            self.assert_refused(NoAsk, "show q")
        self.assertEqual(self.shown()[:4], ["add x y", "or x y", "add 1 999", "under x y"])

    def test_texts_that_are_no_claims(self):
        for text in (
            "x", "add x y", "same x", "same x y z", "under x 01", "yes yes", "sign sign x", "Yes", "yes\n", "", " yes",
        ):
            self.assert_refused(NoClaim, f"claim k {text}")
            self.assert_refused(NoClaim, f"claim q {text}")
            self.assert_refused(NoClaim, f"claim a {text}")
            self.assert_refused(NoAsk, "show q")
        self.assertEqual(self.shown()[:4], ["add x y", "or x y", "add 1 999", "under x y"])

    def test_names_lacking(self):
        for line, name in (
            ("worth a 3", "x"), ("worth a 3 x 1", "y"), ("worth a 3 y 1", "x"), ("worth a 3 z 1", "x"),
            ("worth k 3", "x"), ("worth k 3 x 7", "y"), ("worth m 3 y 7", "x"),
        ):
            self.assertEqual(self.assert_refused(NoName, line).word, name)
        self.assert_told("claim n either yes same b a", [])
        self.assertEqual(self.assert_refused(NoName, "worth n 3").word, "b")

    def test_the_line_first_and_then_its_parts(self):
        self.assert_refused(NoAsk, "sum 1 add x")
        self.assert_refused(NoAsk, "claim add same x")
        self.assert_refused(NoAsk, "fail l 61")
        self.assert_refused(NoAsk, "turn a 5 none")
        self.assert_refused(NoAsk, "turn k 5 addboth")


class NamesTest(DeskTest):
    def test_names_that_are_words_of_lines(self):
        names = [name for name in LINES if name != "same"]
        for name in names:
            self.assert_told(f"sum {name} add {name} 1", [])
        for name in names:
            self.assert_told(f"show {name}", [f"add {name} 1"])
            self.assert_told(f"same {name} {name}", ["same"])
            self.assert_told(f"worth {name} 3 {name} 7", ["0"])
            self.assert_told(f"states {name}", ["2"])
            self.assert_told(f"steps {name}", ["- addboth", "- orsum", "- oddsum"])
            self.assert_told(f"turn {name} - addboth", [])
            self.assert_told(f"show {name}", [f"add 1 {name}"])
            self.assert_told(f"claim {name} sign {name}", [])
            self.assert_told(f"all {name}", ["", "n"])
            self.assert_told(f"some {name}", ["", "y"])
            self.assert_told(f"hold {name} 3", [f"{name} 4"])
            self.assert_told(f"fail {name} 3", [f"{name} 0"])
            self.assert_told(f"count {name} 3", ["4"])
            self.assert_told(f"rule {name}", ["1", "2"])
        self.assert_refused(NoAsk, "sum same x")

    def test_names_of_rules_too(self):
        self.assert_told("sum addboth or x x", [])
        self.assert_told("turn addboth - selfand", [])
        self.assert_told("show addboth", ["x"])


class DesksTest(DeskTest):
    def test_two_desks_side_by_side(self):
        other = Desk()
        self.assert_refused(NoAsk, "show a", other)
        self.assert_told("sum a neg x", [], other)
        self.assert_told("show a", ["add x y"])
        self.assert_told("turn a - addboth", [])
        self.assert_told("show a", ["neg x"], other)
        self.assert_told("claim a yes", [], other)
        self.assert_told("show a", ["add y x"])
        self.assert_refused(NoAsk, "show k", other)

    def test_what_is_told_is_the_askers_own(self):
        told = self.desk.ask("same a b")
        told.append("more")
        put = self.desk.ask("sum q x")
        put.append("more")
        self.assert_told("same a b", ["1", "x 1", "y 1"])
        self.assert_told("sum q x", [])
        self.assert_told("hold l 3", [])

    def test_asked_again(self):
        for line in ("show a", "same a b", "all k", "some m", "hold k 9", "count k 9", "rule k", "states e", "steps a"):
            self.assertEqual(self.desk.ask(line), self.desk.ask(line))


class AsThePartsTellTest(DeskTest):
    def test_drawn_sums(self):
        chance = random.Random(71)
        sums = reference.gathered(chance, reference.some_sum, ("x", "yy"), 2, 24, 40)
        for one, other in zip(sums, sums[1:] + sums[:1]):
            self.desk.ask(f"sum one {sum_shown(one)}")
            self.desk.ask(f"sum other {sum_shown(other)}")
            self.assert_told("show one", [sum_shown(one)])
            told = compared(one, other)
            rows = ["same"]
            if told[0] == "parted":
                rows = [str(told[1])] + [f"{name} {told[2][name]}" for name in sorted(told[2])]
            self.assert_told("same one other", rows)
            self.assert_told("states one", [str(len(least(machine_of(one, names_of(one)))[2]))])
            paths = [".".join(map(str, path)) or "-" for path, _ in steps(one)]
            self.assert_told("steps one", [f"{path} {step[1]}" for path, step in zip(paths, steps(one))])
            for width in (1, 7, 60):
                values = {name: chance.randrange(2**width) for name in ("x", "yy")}
                words = " ".join(f"{name} {word}" for name, word in values.items())
                self.assert_told(f"worth one {width} {words}", [str(reference.told(one, width, values))])
            for path, step in zip(paths, steps(one)):
                self.desk.ask(f"sum one {sum_shown(one)}")
                self.assert_told(f"turn one {path} {step[1]}", [])
                self.assert_told("show one", [sum_shown(led(one, (step,)))])

    def test_drawn_claims(self):
        chance = random.Random(72)
        for claim in reference.gathered(chance, reference.some_claim, ("x", "yy"), 2, 40, 40):
            names = names_of(claim)
            self.desk.ask(f"claim it {sum_shown(claim)}")
            self.assert_told("show it", [sum_shown(claim)])
            for word, told in (("all", for_all(claim)), ("some", for_some(claim))):
                self.assert_told(f"{word} it", ["".join("ny"[truth] for truth in row) for row in told])
            machine = least(claim_machine(claim, names))
            self.assert_told("states it", [str(len(machine[2]))])
            if len(machine[2]) <= 60:
                self.assert_told("rule it", [" ".join(map(str, numbers)) for numbers in rule(claim)])
            for width in (1, 5, 60):
                self.assert_told(f"count it {width}", [str(count(claim, width))])
                for word, ask in (("fail", failing), ("hold", holding)):
                    try:
                        words = ask(claim, width)
                    except NoWords:
                        self.assert_refused(NoWords, f"{word} it {width}")
                        continue
                    self.assert_told(f"{word} it {width}", [f"{name} {words[name]}" for name in names])
                    asked = " ".join([f"worth it {width}"] + [f"{name} {words[name]}" for name in names])
                    self.assert_told(asked, ["yes" if word == "hold" else "no"])


if __name__ == "__main__":
    unittest.main()
