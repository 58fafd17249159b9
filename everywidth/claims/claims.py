"""Claims read from texts and shown as texts, and whether a claim holds at a width by words of its names."""

from everywidth.bits import words_at
from everywidth.errors import NoClaim, NoSum
from everywidth.rows import folded, refuse_lacking
from everywidth.sums.texts import sum_shown, sum_word_read
from everywidth.sums.worths import word_worth
from everywidth.vocabulary import claims_behind, is_claim_word, sums_behind


def read_claim(text):
    """The claim that the text tells, or NoClaim."""
    words = []
    lacking = ["claim"]
    # What still lacks is kept in a list, as parts may stand deeper than calls may go.
    for part in text.split(" "):
        if lacking == []:
            raise NoClaim(f"more words than the claim has: {part!r}")
        word = word_read(part, lacking.pop())
        words.append(word)
        lacking.extend(["sum"] * sums_behind(word) + ["claim"] * claims_behind(word))
    if lacking != []:
        raise NoClaim(f"parts lacking at the end: {lacking!r}")
    return tuple(words)


def word_read(part, kind):
    """One word of a claim, where a part of this kind begins; or NoClaim."""
    if kind == "sum":
        return sum_part_read(part)
    if is_claim_word(part):
        return part
    raise NoClaim(f"no word of a claim: {part!r}")


def sum_part_read(part):
    """One word of a sum in a claim; or NoClaim."""
    try:
        return sum_word_read(part)
    except NoSum:
        raise NoClaim(f"no word of a sum: {part!r}") from None


def claim_shown(words):
    """The text of a claim."""
    return sum_shown(words)


def holds(claim, width, values):
    """Whether a claim holds at the width by the words, or NoName."""
    refuse_lacking(claim, values)
    many = words_at(width)
    return folded(claim, lambda word, parts: told_of_word(word, parts, many, values))


def told_of_word(word, parts, many, values):
    """What a word makes of its parts, where there are so many words at the width: a truth of a claim, else a worth."""
    if not is_claim_word(word):
        return word_worth(word, parts, values) % many
    if sums_behind(word) > 0:
        return truth_of_sums(word, parts, many)
    return truth_of_claims(word, parts)


def truth_of_sums(word, worths, many):
    """Whether a claim about sums holds by their worths."""
    if word == "nought":
        return worths[0] == 0
    if word == "sign":
        return signed(worths[0], many) < 0
    if word == "same":
        return worths[0] == worths[1]
    if word == "under":
        return worths[0] < worths[1]
    return signed(worths[0], many) < signed(worths[1], many)


def signed(word, many):
    """A word as a signed number."""
    return word - many if word * 2 >= many else word


def truth_of_claims(word, truths):
    """Whether a claim about claims holds by their truths."""
    if word == "yes":
        return True
    if word == "never":
        return not truths[0]
    if word == "both":
        return truths[0] and truths[1]
    if word == "either":
        return truths[0] or truths[1]
    return truths[1] or not truths[0]
