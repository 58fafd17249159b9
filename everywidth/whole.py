"""The desk: sums and claims kept under names, and what is told of them line by line."""

from everywidth.asked import name_asked, parts_asked, path_asked, rule_asked, values_asked, width_asked
from everywidth.claims.claims import claim_shown, holds, read_claim
from everywidth.claims.counts import count, rule
from everywidth.claims.widths import failing, for_all, for_some, holding, least_of_claim
from everywidth.errors import NoAsk
from everywidth.machines.alike import compared
from everywidth.machines.least import least
from everywidth.machines.made import machine_of
from everywidth.sums.texts import names_of, read_sum, sum_shown
from everywidth.sums.turns import led, steps
from everywidth.sums.worths import worth

# Each answer is made of what the desk keeps, a dict of pairs of a kind and a row of words, and the rest of the line.


def sum_put(kept, rest):
    """`sum NAME TEXT`: no rows."""
    parts = name_and_text(rest)
    kept[parts[0]] = ("sum", read_sum(parts[1]))
    return []


def claim_put(kept, rest):
    """`claim NAME TEXT`: no rows."""
    parts = name_and_text(rest)
    kept[parts[0]] = ("claim", read_claim(parts[1]))
    return []


def name_and_text(rest):
    """A name and the text behind it, of which only its reader knows whether it is one."""
    parted = rest.partition(" ")
    if parted[1] == "":
        raise NoAsk(f"no text: {rest!r}")
    return (name_asked(parted[0]), parted[2])


def found(kept, name):
    """The kind and the words under a name, or NoAsk."""
    if name not in kept:
        raise NoAsk(f"nothing there: {name!r}")
    return kept[name]


def found_of(kept, name, kind):
    """The words under a name, of this kind, or NoAsk."""
    thing = found(kept, name)
    if thing[0] != kind:
        raise NoAsk(f"no {kind}: {name!r}")
    return thing[1]


def text_told(kept, rest):
    """`show NAME`: the text."""
    thing = found(kept, rest)
    return [sum_shown(thing[1]) if thing[0] == "sum" else claim_shown(thing[1])]


def same_told(kept, rest):
    """`same NAME NAME`: `same`, or the width and the words that part them."""
    parts = parts_asked(rest, 2)
    told = compared(found_of(kept, parts[0], "sum"), found_of(kept, parts[1], "sum"))
    if told[0] == "same":
        return ["same"]
    return [str(told[1])] + word_rows(told[2])


def word_rows(words):
    """A row for each name with its word, names sorted."""
    return [" ".join([name, str(words[name])]) for name in sorted(words)]


def worth_told(kept, rest):
    """`worth NAME W NAME NUMBER ..`: the word, or `yes` or `no` of a claim."""
    parts = rest.split(" ")
    if len(parts) < 2:
        raise NoAsk(f"no width: {rest!r}")
    thing = found(kept, parts[0])
    width = width_asked(parts[1])
    values = values_asked(parts[2:], width)
    if thing[0] == "sum":
        return [str(worth(thing[1], width, values))]
    return ["yes" if holds(thing[1], width, values) else "no"]


def all_told(kept, rest):
    """`all NAME`: the tail and the ring."""
    return truth_rows(for_all(found_of(kept, rest, "claim")))


def some_told(kept, rest):
    """`some NAME`: the tail and the ring."""
    return truth_rows(for_some(found_of(kept, rest, "claim")))


def truth_rows(rows):
    """A row of y and n for each row of truths."""
    return ["".join(["y" if truth else "n" for truth in row]) for row in rows]


def fail_told(kept, rest):
    """`fail NAME W`: the first words for which the claim does not hold."""
    parts = parts_asked(rest, 2)
    return word_rows(failing(found_of(kept, parts[0], "claim"), width_asked(parts[1])))


def hold_told(kept, rest):
    """`hold NAME W`: the first words for which the claim holds."""
    parts = parts_asked(rest, 2)
    return word_rows(holding(found_of(kept, parts[0], "claim"), width_asked(parts[1])))


def count_told(kept, rest):
    """`count NAME W`: the number."""
    parts = parts_asked(rest, 2)
    return [str(count(found_of(kept, parts[0], "claim"), width_asked(parts[1])))]


def rule_told(kept, rest):
    """`rule NAME`: firsts, and terms."""
    told = rule(found_of(kept, rest, "claim"))
    return [" ".join([str(number) for number in numbers]) for numbers in told]


def states_told(kept, rest):
    """`states NAME`: how many states the least machine has."""
    thing = found(kept, rest)
    if thing[0] == "sum":
        machine = least(machine_of(thing[1], names_of(thing[1])))
    else:
        machine = least_of_claim(thing[1])
    return [str(len(machine[2]))]


def steps_told(kept, rest):
    """`steps NAME`: the steps that fit, a row each."""
    return [" ".join([path_shown(step[0]), step[1]]) for step in steps(found_of(kept, rest, "sum"))]


def path_shown(path):
    """The numbers of a path parted by points; of none a dash."""
    return "-" if path == () else ".".join([str(number) for number in path])


def turned(kept, rest):
    """`turn NAME PATH RULE`: no rows."""
    parts = parts_asked(rest, 3)
    words = found_of(kept, parts[0], "sum")
    step = (path_asked(parts[1]), rule_asked(parts[2]))
    kept[parts[0]] = ("sum", led(words, (step,)))
    return []


ANSWERS = {
    "sum": sum_put,
    "claim": claim_put,
    "show": text_told,
    "same": same_told,
    "worth": worth_told,
    "all": all_told,
    "some": some_told,
    "fail": fail_told,
    "hold": hold_told,
    "count": count_told,
    "rule": rule_told,
    "states": states_told,
    "steps": steps_told,
    "turn": turned,
}


class Desk:
    """A desk that keeps sums and claims under names."""

    def __init__(self):
        self.kept = {}

    def ask(self, line):
        """The rows that are told of a line, a list of texts; what is refused changes nothing."""
        asked = line.partition(" ")
        if asked[0] not in ANSWERS:
            raise NoAsk(f"no line of the desk: {line!r}")
        return ANSWERS[asked[0]](self.kept, asked[2])
