"""Numbers, cuts and deeds as words of a line, parted by one blank."""

from cutweave.nets import DIGITS

# No net, no history and no run has so great a number in it; words of any length are told as no greater one.
BEYOND = 1000000000
MOST_DIGITS = 9


def is_numeral(word):
    """Whether the word is a number without noughts ahead, however long it is."""
    return word != "" and all([sign in DIGITS for sign in word]) and (word == "0" or word[0] != "0")


def number_told(word):
    """The number that the numeral tells, or one that is as much too great as it."""
    return int(word) if len(word) <= MOST_DIGITS else BEYOND


def joined_words(values):
    """The values, words or numbers, with one blank between."""
    return " ".join([str(value) for value in values])


def is_cut_line(words):
    """Whether the words have the form of a cut: they may be that of no history."""
    return words[0] == "cut" and len(words) > 1 and all([is_numeral(word) for word in words[1:]])


def is_deed_line(words):
    """Whether the words have the form of a deed: they may be that of no net."""
    if not all([is_numeral(word) for word in words[1:]]):
        return False
    return (words[0] == "act" and len(words) == 2) or (words[0] in ("take", "lose") and len(words) == 3)


def cut_told(words):
    """The cut that the words, which have the form of one, tell."""
    return tuple([number_told(word) for word in words[1:]])


def deed_told(words):
    """The deed that the words, which have the form of one, tell."""
    return (words[0], *cut_told(words))
