import random
import unittest

import reference
from everywidth.claims.claims import read_claim
from everywidth.machines.least import least
from everywidth.machines.made import claim_machine, machine_of
from everywidth.machines.runs import run
from everywidth.sums.texts import read_sum

NAMES = ((), ("x",), ("x", "y"), ("a", "b", "c"))

# Of each row all are the same at every width; of two rows none are.
SAME_SUMS = (
    ("add x y", "add y x", "add or x y and x y", "add odd x y twice and x y", "sub x neg y", "sub x sub 0 y"),
    ("sub x y", "add x neg y", "not add not x y", "neg sub y x"),
    ("odd x y", "sub or x y and x y", "and or x y not and x y", "pick x not y y"),
    ("or x y", "not and not x not y", "pick x x y", "sub add x y and x y"),
    ("and x y", "and y and x y", "pick x y 0", "sub x and x not y"),
    ("low or x y", "and or x y neg or x y", "low low or y x"),
    ("pick x y 1", "or and x y and not x 1"),
    ("and 0 or x y", "sub add x y add y x", "odd and x y and y x"),
    ("or x or y 512", "or 512 or y x", "not and not y and not 512 not x"),
    ("or x or y 513", "or or x 512 or y 1"),
)
SAME_CLAIMS = (
    ("same x y", "nought sub x y", "never either under x y under y x", "nought odd x y"),
    ("under x y", "never either same x y under y x", "both so under y x never yes never same x y"),
    ("beneath x y", "either both sign x never sign y both so sign y sign x under x y"),
    ("sign add x y", "beneath add y x 0", "never so sign add x y never yes"),
    ("either sign x either never sign x nought y", "yes", "so nought x nought x"),
    ("never yes", "both same x y never same y x", "under y 0"),
)


class LeastTest(unittest.TestCase):
    def assert_numbered(self, machine):
        self.assertEqual(machine[1], 0)
        self.assertEqual(reference.states_come_to(machine), list(range(len(machine[2]))))

    def assert_least(self, machine, told):
        self.assertEqual([type(part) for part in told], [tuple, int, tuple, tuple])
        self.assertEqual(told[0], machine[0])
        self.assertEqual(len(told[2]), len(told[3]))
        kind = type(machine[3][0][0])
        for row in told[3]:
            self.assertIs(type(row), tuple)
            self.assertEqual([type(out) for out in row], [kind] * 2 ** len(machine[0]))
        for row in told[2]:
            self.assertEqual([type(row)] + [type(state) for state in row], [tuple] + [int] * 2 ** len(machine[0]))
        self.assert_numbered(told)
        many = len(told[2])
        self.assertEqual(len(reference.unlike_pairs(told)), many * (many - 1))

    def assert_tells_the_same(self, chance, machine, told):
        for length in (0, 1, 2, 3, 5, 9, 17, 60):
            for _ in range(8):
                letters = tuple(chance.randrange(2 ** len(machine[0])) for _ in range(length))
                self.assertEqual(run(told, letters), run(machine, letters))

    def assert_as_many_as_unlike_ones(self, machine, told):
        unlike = reference.unlike_pairs(machine)
        kept = []
        for state in reference.states_come_to(machine):
            if all((state, other) in unlike for other in kept):
                kept.append(state)
        self.assertEqual(len(told[2]), len(kept))

    def test_a_machine_by_hand(self):
        # States 1 and 4 are alike, 0 and 5 too; nothing leads to 2 from the begin 3.
        steps = ((1, 3), (5, 0), (2, 1), (4, 5), (0, 5), (4, 3))
        out = ((0, 1), (1, 1), (0, 0), (0, 0), (1, 1), (0, 1))
        self.assertEqual(
            least((("x",), 3, steps, out)),
            (("x",), 0, ((1, 2), (2, 2), (1, 0)), ((0, 0), (1, 1), (0, 1))),
        )

    def test_numbered_letter_by_letter(self):
        steps = ((3, 2), (1, 1), (0, 1), (1, 0))
        out = ((0, 0), (0, 1), (1, 0), (1, 1))
        self.assertEqual(
            least((("x",), 0, steps, out)),
            (("x",), 0, ((1, 2), (3, 0), (0, 3), (3, 3)), ((0, 0), (1, 1), (1, 0), (0, 1))),
        )

    def test_truths_and_bits_stay_what_they_are(self):
        for kind in (int, bool):
            told = least(((), 1, ((0,), (0,)), ((kind(1),), (kind(1),))))
            self.assertEqual(told, ((), 0, ((0,),), ((1,),)))
            self.assertIs(type(told[3][0][0]), kind)

    def test_drawn_machines(self):
        chance = random.Random(11)
        for turn in range(160):
            machine = reference.drawn_machine(chance, NAMES[turn % 4], 1 + turn % 13, (int, bool)[turn // 4 % 2])
            told = least(machine)
            self.assert_least(machine, told)
            self.assert_tells_the_same(chance, machine, told)
            self.assert_as_many_as_unlike_ones(machine, told)
            self.assertEqual(least(told), told)
            self.assertEqual(least(machine), told)

    def test_states_put_otherwise_come_to_the_same(self):
        chance = random.Random(12)
        for turn in range(80):
            names, begin, steps, out = reference.drawn_machine(chance, NAMES[turn % 4], 1 + turn % 9, int)
            places = list(range(len(steps)))
            chance.shuffle(places)
            put = sorted(zip(places, steps, out))
            moved = tuple(tuple(places[state] for state in row) for _, row, _ in put)
            other = (names, places[begin], moved, tuple(row for _, _, row in put))
            self.assertEqual(least(other), least((names, begin, steps, out)))

    def test_a_hundred_states(self):
        chance = random.Random(13)
        for names in NAMES:
            for kind in (int, bool):
                machine = reference.drawn_machine(chance, names, 100, kind)
                told = least(machine)
                self.assert_least(machine, told)
                self.assert_tells_the_same(chance, machine, told)

    def test_a_long_way_to_what_parts(self):
        for names in NAMES:
            letters = 2 ** len(names)
            # A ring of 100 states, of which the last alone is unlike: only the way to it parts the others.
            ring = tuple(((state + 1) % 100,) * letters for state in range(100))
            out = ((False,) * letters,) * 99 + ((True,) * letters,)
            self.assertEqual(least((names, 0, ring, out)), (names, 0, ring, out))
            self.assertEqual(len(least((names, 40, ring, out))[2]), 100)
            # Two like ones in the ring of 100: half of it is enough.
            halved = ((False,) * letters,) * 49 + ((True,) * letters,)
            self.assertEqual(len(least((names, 7, ring, halved * 2))[2]), 50)
            self.assertEqual(len(least((names, 7, ring, ((True,) * letters,) * 100))[2]), 1)

    def test_a_hundred_states_to_which_nothing_leads_but_one(self):
        steps = ((0,),) * 100
        out = tuple((state % 2,) for state in range(100))
        self.assertEqual(least(((), 0, steps, out)), ((), 0, ((0,),), ((0,),)))
        self.assertEqual(least(((), 99, steps, out)), ((), 0, ((1,), (1,)), ((1,), (0,))))


class WritingsTest(unittest.TestCase):
    def assert_rows(self, rows, read, made):
        seen = []
        for row in rows:
            told = [least(made(read(text), ("x", "y"))) for text in row]
            for text, machine in zip(row, told):
                self.assertEqual(machine, told[0], text)
            self.assertNotIn(told[0], seen, row)
            seen.append(told[0])

    def test_sums_written_otherwise(self):
        self.assert_rows(SAME_SUMS, read_sum, machine_of)

    def test_claims_written_otherwise(self):
        self.assert_rows(SAME_CLAIMS, read_claim, claim_machine)

    def test_three_names(self):
        names = ("x", "y", "z")
        self.assertEqual(
            least(machine_of(read_sum("add add x y z"), names)), least(machine_of(read_sum("add z add y x"), names))
        )
        self.assertNotEqual(
            least(machine_of(read_sum("add add x y z"), names)), least(machine_of(read_sum("add x sub y z"), names))
        )

    def test_no_names(self):
        sums = ("999", "sub 1000 1", "or 231 768", "not sub 0 1000")
        told = [least(machine_of(read_sum(text), ())) for text in sums]
        self.assertEqual(told, [told[0]] * 4)
        self.assertEqual(len(told[0][2]), 11)
        self.assertEqual(least(machine_of((0,), ())), ((), 0, ((0,),), ((0,),)))
        self.assertEqual(least(claim_machine(("yes",), ())), ((), 0, ((0,),), ((True,),)))

    def test_drawn_sums_and_claims(self):
        chance = random.Random(14)
        for names in NAMES:
            for make, made in ((reference.some_sum, machine_of), (reference.some_claim, claim_machine)):
                for words in reference.gathered(chance, make, names, 3, 24, 12):
                    machine = made(words, names)
                    told = least(machine)
                    self.assertEqual(least(told), told)
                    for _ in range(6):
                        letters = tuple(chance.randrange(2 ** len(names)) for _ in range(60))
                        self.assertEqual(run(told, letters), run(machine, letters), words)
                    self.assertLessEqual(len(told[2]), len(machine[2]))


if __name__ == "__main__":
    unittest.main()
