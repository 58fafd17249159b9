"""The words that sums and claims are written in, and what may be a name or a number among them."""

SUM_PARTS = {
    "not": 1,
    "neg": 1,
    "twice": 1,
    "low": 1,
    "and": 2,
    "or": 2,
    "odd": 2,
    "add": 2,
    "sub": 2,
    "pick": 3,
}

SUMS_IN_CLAIM = {
    "same": 2,
    "under": 2,
    "beneath": 2,
    "sign": 1,
    "nought": 1,
}

CLAIMS_IN_CLAIM = {
    "both": 2,
    "either": 2,
    "so": 2,
    "never": 1,
    "yes": 0,
}

LETTERS = "abcdefghijklmnopqrstuvwxyz"

FIGURES = "0123456789"

LONGEST_NAME = 8


def is_sum_word(text):
    """Whether the text is a word that makes a sum of other sums."""
    return text in SUM_PARTS


def sum_words_with(parts):
    """The words that make a sum of so many other sums."""
    return [word for word in SUM_PARTS if SUM_PARTS[word] == parts]


def is_claim_word(text):
    """Whether the text is a word that makes a claim."""
    return text in SUMS_IN_CLAIM or text in CLAIMS_IN_CLAIM


def sums_behind(word):
    """How many sums stand behind a word of a sum or a claim: none behind a name or a number."""
    return SUM_PARTS.get(word, 0) + SUMS_IN_CLAIM.get(word, 0)


def claims_behind(word):
    """How many claims stand behind a word of a sum or a claim."""
    return CLAIMS_IN_CLAIM.get(word, 0)


def parts_of(word):
    """How many parts, sums or claims, stand behind a word of a sum or a claim."""
    return sums_behind(word) + claims_behind(word)


def is_made_of(text, signs):
    """Whether the text is not empty and has no other signs than these."""
    return text != "" and all([sign in signs for sign in text])


def is_name(text):
    """Whether the text may stand for a word: the words of sums and of claims may not."""
    if is_sum_word(text) or is_claim_word(text):
        return False
    return len(text) <= LONGEST_NAME and is_made_of(text, LETTERS)


def is_figures(text):
    """Whether the text is a whole number in figures, without a nought ahead."""
    # Signs are looked at one by one, as isdigit takes figures of other scripts, too.
    return is_made_of(text, FIGURES) and (text == "0" or not text.startswith("0"))
