"""The names of the interface, with their arguments as they stand there."""

import importlib
import inspect
import unittest

from everywidth.whole import Desk

FUNCTIONS = {
    "everywidth.bits": {
        "cut": "number width", "bits_of": "number width", "number_of": "bits", "last_bit": "word width",
    },
    "everywidth.sums.texts": {"read_sum": "text", "sum_shown": "words", "names_of": "words"},
    "everywidth.sums.worths": {"worth": "words width values"},
    "everywidth.claims.claims": {"read_claim": "text", "claim_shown": "words", "holds": "claim width values"},
    "everywidth.machines.made": {"machine_of": "words names", "claim_machine": "claim names"},
    "everywidth.machines.runs": {
        "run": "machine letters", "letters_of": "names width values", "words_of": "names letters",
    },
    "everywidth.machines.least": {"least": "machine"},
    "everywidth.machines.alike": {"compared": "one other", "alike_shown": "one other paper"},
    "everywidth.claims.widths": {
        "for_all": "claim", "for_some": "claim", "failing": "claim width", "holding": "claim width",
    },
    "everywidth.claims.counts": {"count": "claim width", "rule": "claim", "rule_shown": "claim rule"},
    "everywidth.sums.turns": {"led": "words chain", "steps": "words"},
    "everywidth.sums.fewest": {"fewest": "words", "fewest_shown": "words told paper"},
}


class InterfaceTest(unittest.TestCase):
    def test_functions(self):
        for module, functions in FUNCTIONS.items():
            for name, arguments in functions.items():
                told = inspect.signature(getattr(importlib.import_module(module), name))
                self.assertEqual(list(told.parameters), arguments.split(), (module, name))

    def test_the_desk(self):
        self.assertEqual(list(inspect.signature(Desk).parameters), [])
        self.assertEqual(list(inspect.signature(Desk().ask).parameters), ["line"])


if __name__ == "__main__":
    unittest.main()
