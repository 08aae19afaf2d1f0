"""The words of texts: which of them can stand where."""

from onelongturn.kinds import MOST, is_name

MOST_FIGURES = 13
RUN_LINE = ("run", "name", "place", "leaves", "takes", "place")
STAY_LINE = ("stay", "name", "place", "leaves", "takes")


def read_number(word, least):
    """The number from least to 10 ** 12 that a word writes as str does, None if it writes none."""
    if len(word) > MOST_FIGURES or not word.isascii() or not word.isdecimal():
        return None
    if len(word) > 1 and word[0] == "0":
        return None
    number = int(word)
    return number if least <= number <= MOST else None


def wrong_trip_word(words, ahead="", below=MOST + 1):
    """The index of the first word that cannot stand in a trip's line, None if all can.

    Its name must be above the name ahead, and it must leave below the number told.
    """
    line = RUN_LINE if words[0] == "run" else STAY_LINE
    for at, word in enumerate(words):
        if at >= len(line) or not fits(word, line[at], ahead, below):
            return at
    return None if len(words) == len(line) else len(words)


def fits(word, kind, ahead, below):
    """Whether a word is of the kind that is asked for."""
    if kind == "name":
        return is_name(word) and word > ahead
    if kind == "place":
        return is_name(word)
    if kind == "leaves":
        leaves = read_number(word, 0)
        return leaves is not None and leaves < below
    if kind == "takes":
        return read_number(word, 1) is not None
    if kind == "number":
        return read_number(word, 0) is not None
    return word == kind


def wrong_pause_word(words, begin):
    """The index of the first word that cannot stand in pairs PLACE NUMBER, which begin at an index; None if all can."""
    ahead = ""
    for at in range(begin, len(words)):
        if (at - begin) % 2 == 1:
            stands = read_number(words[at], 1) is not None
        else:
            stands = is_name(words[at]) and words[at] > ahead
            ahead = words[at]
        if not stands:
            return at
    return None if (len(words) - begin) % 2 == 0 else len(words)


def told_pauses(words, begin):
    """The dict that right pairs PLACE NUMBER tell."""
    return {words[at]: int(words[at + 1]) for at in range(begin, len(words), 2)}
