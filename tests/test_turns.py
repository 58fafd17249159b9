import random
import unittest

import reference
from everywidth.errors import NoTurning
from everywidth.machines.alike import compared
from everywidth.sums.texts import read_sum, sum_shown
from everywidth.sums.turns import led, steps

# In the order of [17].
RULES = (
    "addboth", "addthree", "subneg", "negnot", "twiceadd", "notnot", "notand", "notor", "oddor", "orsum", "oddsum",
    "lowneg", "pickor", "selfodd", "selfand", "zeroadd",
)

# A rule, a sum, and what it is turned to.
TURNED = (
    ("addboth", "add x y", "add y x"),
    ("addboth", "and x y", "and y x"),
    ("addboth", "or x y", "or y x"),
    ("addboth", "odd x y", "odd y x"),
    ("addboth", "add not x twice 3", "add twice 3 not x"),
    ("addboth", "add x x", "add x x"),
    ("addthree", "add add x y z", "add x add y z"),
    ("addthree", "and and x y z", "and x and y z"),
    ("addthree", "or or x y z", "or x or y z"),
    ("addthree", "odd odd x y z", "odd x odd y z"),
    ("addthree", "add add add x y z 5", "add add x y add z 5"),
    ("addthree", "add add x add y z 5", "add x add add y z 5"),
    ("subneg", "sub x y", "add x neg y"),
    ("subneg", "sub 1 low y", "add 1 neg low y"),
    ("negnot", "neg x", "add not x 1"),
    ("negnot", "neg neg x", "add not neg x 1"),
    ("twiceadd", "twice x", "add x x"),
    ("twiceadd", "twice sub x 7", "add sub x 7 sub x 7"),
    ("notnot", "not not x", "x"),
    ("notnot", "not not not 12", "not 12"),
    ("notand", "not and x y", "or not x not y"),
    ("notand", "not and 0 and x y", "or not 0 not and x y"),
    ("notor", "not or x y", "and not x not y"),
    ("oddor", "odd x y", "and or x y not and x y"),
    ("oddor", "odd neg x 1", "and or neg x 1 not and neg x 1"),
    ("orsum", "add x y", "add or x y and x y"),
    ("oddsum", "add x y", "add odd x y twice and x y"),
    ("oddsum", "add low x y", "add odd low x y twice and low x y"),
    ("lowneg", "low x", "and x neg x"),
    ("lowneg", "low add x y", "and add x y neg add x y"),
    ("pickor", "pick x y z", "or and x y and not x z"),
    ("pickor", "pick not x 0 odd y z", "or and not x 0 and not not x odd y z"),
    ("selfodd", "odd x x", "0"),
    ("selfodd", "odd add x y add x y", "0"),
    ("selfand", "and x x", "x"),
    ("selfand", "or x x", "x"),
    ("selfand", "or pick x y z pick x y z", "pick x y z"),
    ("selfand", "and 0 0", "0"),
    ("zeroadd", "add x 0", "x"),
    ("zeroadd", "or x 0", "x"),
    ("zeroadd", "odd x 0", "x"),
    ("zeroadd", "sub x 0", "x"),
    ("zeroadd", "sub not x 0", "not x"),
    ("zeroadd", "add 0 0", "0"),
)

UNFIT = (
    ("addboth", "sub x y"), ("addboth", "pick x y z"), ("addboth", "neg x"), ("addboth", "x"), ("addboth", "0"),
    ("addthree", "add x add y z"), ("addthree", "add and x y z"), ("addthree", "and add x y z"),
    ("addthree", "odd or x y z"), ("addthree", "or odd x y z"), ("addthree", "sub sub x y z"), ("addthree", "add x y"),
    ("addthree", "pick pick x y z x y"), ("addthree", "add sub x y z"),
    ("subneg", "add x neg y"), ("subneg", "neg x"), ("negnot", "not x"), ("negnot", "add not x 1"),
    ("negnot", "sub 0 x"), ("twiceadd", "add x x"), ("twiceadd", "low x"), ("notnot", "not x"), ("notnot", "neg not x"),
    ("notnot", "not neg not x"), ("notand", "and not x y"), ("notand", "not or x y"), ("notand", "not x"),
    ("notand", "not add x y"), ("notor", "not and x y"), ("notor", "or not x y"), ("notor", "not odd x y"),
    ("oddor", "or x y"), ("oddor", "add x y"), ("orsum", "or x y"), ("orsum", "sub x y"), ("oddsum", "odd x y"),
    ("lowneg", "neg x"), ("lowneg", "and x neg x"), ("pickor", "or x y"), ("pickor", "x"),
    ("selfodd", "odd x y"), ("selfodd", "and x x"), ("selfodd", "sub x x"), ("selfodd", "odd add x y add y x"),
    ("selfodd", "odd x not x"), ("selfodd", "odd 1 11"), ("selfodd", "odd x xx"),
    ("selfand", "and x y"), ("selfand", "odd x x"), ("selfand", "add x x"), ("selfand", "or not x not y"),
    ("zeroadd", "add 0 x"), ("zeroadd", "or 0 x"), ("zeroadd", "odd 0 x"), ("zeroadd", "sub 0 x"),
    ("zeroadd", "and x 0"), ("zeroadd", "add x 1"), ("zeroadd", "sub x not 0"), ("zeroadd", "or x y"),
    ("zeroadd", "twice 0"), ("zeroadd", "0"),
)


def tree_of(words):
    """The tree of a sum: (word, parts ..)."""
    def tree_from(place):
        tree = [words[place]]
        place += 1
        for _ in range(reference.parts_of(tree[0])):
            part, place = tree_from(place)
            tree.append(part)
        return tuple(tree), place

    return tree_from(0)[0]


def row_of(tree):
    row = (tree[0],)
    for part in tree[1:]:
        row += row_of(part)
    return row


def turned_tree(rule, tree):
    """What a rule makes of a tree, or None."""
    word, parts = tree[0], tree[1:]
    if rule == "addboth" and word in ("add", "and", "or", "odd"):
        return (word, parts[1], parts[0])
    if rule == "addthree" and word in ("add", "and", "or", "odd") and parts[0][0] == word:
        return (word, parts[0][1], (word, parts[0][2], parts[1]))
    if rule == "selfand" and word in ("and", "or") and parts[0] == parts[1]:
        return parts[0]
    if rule == "selfodd" and word == "odd" and parts[0] == parts[1]:
        return (0,)
    if rule == "zeroadd" and word in ("add", "or", "odd", "sub") and parts[1] == (0,):
        return parts[0]
    inner = parts[0][0] if word == "not" else None
    made = {
        ("subneg", "sub"): lambda x, y: ("add", x, ("neg", y)),
        ("negnot", "neg"): lambda x: ("add", ("not", x), (1,)),
        ("twiceadd", "twice"): lambda x: ("add", x, x),
        ("oddor", "odd"): lambda x, y: ("and", ("or", x, y), ("not", ("and", x, y))),
        ("orsum", "add"): lambda x, y: ("add", ("or", x, y), ("and", x, y)),
        ("oddsum", "add"): lambda x, y: ("add", ("odd", x, y), ("twice", ("and", x, y))),
        ("lowneg", "low"): lambda x: ("and", x, ("neg", x)),
        ("pickor", "pick"): lambda x, y, z: ("or", ("and", x, y), ("and", ("not", x), z)),
        ("notnot", "not"): lambda x: x[1] if inner == "not" else None,
        ("notand", "not"): lambda x: ("or", ("not", x[1]), ("not", x[2])) if inner == "and" else None,
        ("notor", "not"): lambda x: ("and", ("not", x[1]), ("not", x[2])) if inner == "or" else None,
    }
    return made[(rule, word)](*parts) if (rule, word) in made else None


def all_turnings(tree):
    """Each step that fits a tree, a dict with what it is turned to."""
    told = {((), rule): turned_tree(rule, tree) for rule in RULES if turned_tree(rule, tree) is not None}
    for number, part in enumerate(tree[1:]):
        for (path, rule), other in all_turnings(part).items():
            told[((number,) + path, rule)] = tree[:number + 1] + (other,) + tree[number + 2:]
    return told


class TurnsTest(unittest.TestCase):
    def assert_refused(self, words, chain):
        with self.assertRaises(NoTurning) as caught:
            led(words, chain)
        self.assertIs(type(caught.exception), NoTurning)


class LedTest(TurnsTest):
    def test_each_rule(self):
        self.assertEqual(sorted({rule for rule, _, _ in TURNED}), sorted(RULES))
        for rule, one, other in TURNED:
            told = led(read_sum(one), (((), rule),))
            self.assertEqual(told, read_sum(other), (rule, one))
            self.assertIs(type(told), tuple)
            self.assertIn(((), rule), steps(read_sum(one)))

    def test_each_rule_at_each_place_below(self):
        for rule, one, other in TURNED:
            for ahead, behind, path in (
                ("not", "", (0,)), ("add", "y", (0,)), ("sub not y", "", (1,)), ("pick", "z 0", (0,)),
                ("pick z", "0", (1,)), ("pick low twice z 3", "", (2,)), ("and add 1 neg", "x", (0, 1, 0)),
                ("or y or y or y or y", "", (1, 1, 1, 1)),
            ):
                words = read_sum(f"{ahead} {one} {behind}".strip())
                self.assertEqual(led(words, ((path, rule),)), read_sum(f"{ahead} {other} {behind}".strip()))
                self.assertIn((path, rule), steps(words))

    def test_where_it_does_not_fit(self):
        for rule, text in UNFIT:
            self.assert_refused(read_sum(text), (((), rule),))
            self.assertNotIn(((), rule), steps(read_sum(text)))
            self.assert_refused(read_sum(f"neg {text}"), (((0,), rule),))
            self.assertNotIn(((0,), rule), steps(read_sum(f"neg {text}")))

    def test_rules_that_are_none(self):
        for rule in ("", "add", "addBoth", "addboth ", "andboth", "addtwo", "subneg2", "yes"):
            self.assert_refused(("add", "x", "y"), (((), rule),))

    def test_paths_to_no_part(self):
        words = read_sum("add add x 0 add add 1 y neg x")
        for path in (
            (-1,), (-2,), (2,), (3,), (10**30,), (0, -1), (0, -2), (-1, 0), (0, 2), (0, 0, 0), (0, 1, 0), (1, 0, 0, 0),
            (1, 1, 1), (1, 1, -1), (1, 1, 0, 0), (1, -1), (1, 0, -1), (1, 0, 2), (0, 0, -1),
        ):
            for rule in RULES:
                self.assert_refused(words, ((path, rule),))
        self.assert_refused(("x",), (((0,), "addboth"),))
        self.assert_refused((0,), (((0,), "zeroadd"),))
        self.assert_refused(("neg", "x"), (((1,), "negnot"),))
        self.assert_refused(("neg", "neg", "x"), (((-1,), "negnot"),))

    def test_no_step(self):
        for text in ("x", "0", "add x y", "pick x y not z"):
            self.assertEqual(led(read_sum(text), ()), read_sum(text))

    def test_chains(self):
        for begin, chain, end in (
            ("sub x y", (((), "subneg"), ((1,), "negnot")), "add x add not y 1"),
            ("add add x y z", (((), "addthree"), ((1,), "addboth"), ((), "addboth")), "add add z y x"),
            ("not and not x not y", (((), "notand"), ((0,), "notnot"), ((1,), "notnot")), "or x y"),
            ("odd twice x add x x", (((0,), "twiceadd"), ((), "selfodd")), "0"),
            ("add or x x 0", (((), "zeroadd"), ((), "selfand")), "x"),
            ("low x", (((), "lowneg"), ((1,), "negnot"), ((1,), "addboth"), ((), "addboth")), "and add 1 not x x"),
            ("add x y", (((), "addboth"),) * 12, "add x y"),
            ("add x y", (((), "addboth"),) * 11, "add y x"),
            ("pick x y x", (((), "pickor"), ((), "addboth"), ((0,), "addboth")), "or and x not x and x y"),
        ):
            self.assertEqual(sum_shown(led(read_sum(begin), chain)), end)
            self.assertEqual(compared(read_sum(begin), read_sum(end))[0], "same")

    def test_a_chain_with_a_step_that_does_not_fit(self):
        words = read_sum("add x y")
        self.assert_refused(words, (((), "addboth"), ((0,), "addboth")))
        self.assert_refused(words, (((0,), "addboth"), ((), "addboth")))
        self.assert_refused(words, (((), "addboth"), ((), "zeroadd"), ((), "addboth")))
        self.assert_refused(words, (((), "oddsum"), ((1, 0), "addboth"), ((1, 0, 0), "addboth")))
        self.assert_refused(words, (((), "addboth"), ((-1,), "addboth")))

    def test_sums_of_sixty_words(self):
        words = read_sum("add x y")
        while len(words) * 2 + 1 <= 60:
            words = led(words, (((), "orsum"),))
            self.assertEqual(words[:2], ("add", "or"))
            self.assertEqual(reference.told(words, 8, {"x": 201, "y": 99}), 44)
        self.assertGreater(len(words), 25)
        deep = ("not",) * 59 + ("x",)
        self.assertEqual(led(deep, (((0,) * 57, "notnot"),)), ("not",) * 57 + ("x",))
        self.assertEqual(steps(deep), [((0,) * depth, "notnot") for depth in range(58)])


class StepsTest(TurnsTest):
    def test_told(self):
        self.assertEqual(steps(("x",)), [])
        self.assertEqual(steps((0,)), [])
        self.assertEqual(steps(("pick", "x", "y", "z")), [((), "pickor")])
        self.assertEqual(
            steps(read_sum("add add x 0 0")),
            [((), "addboth"), ((), "addthree"), ((), "orsum"), ((), "oddsum"), ((), "zeroadd")]
            + [((0,), "addboth"), ((0,), "orsum"), ((0,), "oddsum"), ((0,), "zeroadd")],
        )
        self.assertEqual(
            steps(read_sum("odd odd 0 0 0")),
            [((), "addboth"), ((), "addthree"), ((), "oddor"), ((), "zeroadd")]
            + [((0,), "addboth"), ((0,), "oddor"), ((0,), "selfodd"), ((0,), "zeroadd")],
        )
        self.assertEqual(
            steps(read_sum("pick not not x not and x y not or x low x")),
            [((), "pickor"), ((0,), "notnot"), ((1,), "notand"), ((1, 0), "addboth"), ((2,), "notor")]
            + [((2, 0), "addboth"), ((2, 0, 1), "lowneg")],
        )
        self.assertEqual(
            steps(read_sum("sub neg and x x or twice y twice y")),
            [((), "subneg"), ((0,), "negnot"), ((0, 0), "addboth"), ((0, 0), "selfand"), ((1,), "addboth")]
            + [((1,), "selfand"), ((1, 0), "twiceadd"), ((1, 1), "twiceadd")],
        )

    def test_the_order(self):
        words = read_sum("pick add x 0 odd odd y y 0 sub add x x not not low z")
        told = steps(words)
        self.assertIs(type(told), list)
        self.assertEqual(told, sorted(told, key=lambda step: (step[0], RULES.index(step[1]))))
        self.assertEqual(len(told), len(set(told)))
        for step in told:
            self.assertEqual([type(step), len(step), type(step[0]), type(step[1])], [tuple, 2, tuple, str])

    def test_drawn_sums_against_trees(self):
        chance = random.Random(51)
        seen = {}
        sums = []
        while len(sums) < 250:
            words = reference.some_sum(chance, ("x", "y", "z"), 3)
            if len(words) <= 24:
                sums.append(words)
        sums += [("odd",) + words * 2 for words in sums[:20]] + [("and", "or") + words * 3 for words in sums[:20]]
        sums += [("sub",) + words + (0,) for words in sums[:20]] + [("not", "and", "y") + words for words in sums[:20]]
        for words in sums:
            turnings = all_turnings(tree_of(words))
            expected = sorted(turnings, key=lambda step: (step[0], RULES.index(step[1])))
            self.assertEqual(steps(words), expected, words)
            for step in expected:
                other = led(words, (step,))
                self.assertEqual(other, row_of(turnings[step]), (words, step))
                seen[step[1]] = True
                for width in (1, 2, 5, 32, 60):
                    values = {name: chance.randrange(2**width) for name in ("x", "y", "z")}
                    self.assertEqual(reference.told(other, width, values), reference.told(words, width, values))
        self.assertEqual(sorted(seen), sorted(RULES))

    def test_what_is_turned_is_the_same_at_every_width(self):
        chance = random.Random(52)
        for words in reference.gathered(chance, reference.some_sum, ("x", "y"), 2, 9, 60):
            for step in steps(words):
                other = led(words, (step,))
                if reference.within_bounds(other, 24):
                    self.assertEqual(compared(words, other)[0], "same", (words, step))

    def test_chains_of_drawn_steps(self):
        chance = random.Random(53)
        for words in reference.gathered(chance, reference.some_sum, ("x", "y"), 2, 12, 60):
            chain, turned = (), words
            for _ in range(12):
                fitting = [step for step in steps(turned) if len(led(turned, (step,))) <= 60]
                if fitting:
                    chain += (chance.choice(fitting),)
                    turned = led(turned, chain[-1:])
            self.assertEqual(led(words, chain), turned)
            for width in (1, 3, 8, 60):
                values = {name: chance.randrange(2**width) for name in ("x", "y")}
                self.assertEqual(reference.told(turned, width, values), reference.told(words, width, values))

    def test_what_is_told_is_the_askers_own(self):
        told = steps(("add", "x", "y"))
        told.append("more")
        told[0] = None
        self.assertEqual(steps(("add", "x", "y")), [((), "addboth"), ((), "orsum"), ((), "oddsum")])


if __name__ == "__main__":
    unittest.main()
