"""Reading texts: tables, pauses and plans."""

from onelongturn.days import Day
from onelongturn.errors import BadText
from onelongturn.plans import Plan
from onelongturn.tables import MOST_TRIPS, Pauses, Table
from onelongturn.trips import told_trip
from onelongturn.words import read_number, told_pauses, wrong_pause_word, wrong_trip_word


def read_table(text):
    """The table with this text; raises BadText(line, word) for any value that is no text of a table."""
    rows = rows_of(text)
    check_table_rows(rows)
    return told_table(rows)


def read_pauses(text):
    """The pauses with this text; raises BadText(0, word) for any value that is no text of pauses."""
    if not isinstance(text, str):
        raise BadText(0, 0)
    words = text.split(" ")
    check_pauses_row(words, 0)
    return Pauses.of(told_pauses(words, 1))


def read_plan(text):
    """The plan with this text; raises BadText(line, word) for any value that is no text of a plan."""
    rows = rows_of(text)
    begins = [at for at, words in enumerate(rows) if words[0] == "pauses"]
    end = begins[0] if begins else len(rows)
    check_table_rows(rows[:end] if end > 0 else rows)
    if end == len(rows):
        raise BadText(end, 0)
    check_pauses_row(rows[end], end)
    check_follow_rows(rows, end + 1, [words[1] for words in rows[1:end]])
    table = told_table(rows[:end])
    pauses = Pauses.of(told_pauses(rows[end], 1))
    return Plan(table, pauses, {words[0]: words[1] for words in rows[end + 1:]})


def rows_of(text):
    """The lines of a text, each as the list of its words; raises BadText(0, 0) for any value that is no string."""
    if not isinstance(text, str):
        raise BadText(0, 0)
    return [line.split(" ") for line in text.split("\n")]


def check_table_rows(rows):
    """Raises BadText(line, word) with the first word that cannot stand in the lines of a table."""
    wrong = wrong_day_word(rows[0])
    if wrong is not None:
        raise BadText(0, wrong)
    length = int(rows[0][1])
    ahead = ""
    for line in range(1, len(rows)):
        if line > MOST_TRIPS:
            raise BadText(line, 0)
        wrong = wrong_trip_word(rows[line], ahead, length)
        if wrong is not None:
            raise BadText(line, wrong)
        ahead = rows[line][1]


def wrong_day_word(words):
    """The index of the first word that cannot stand in the line of the day, None if all can."""
    if words[0] != "day":
        return 0
    if len(words) < 2 or read_number(words[1], 1) is None:
        return 1
    return 2 if len(words) > 2 else None


def check_pauses_row(words, line):
    """Raises BadText(line, word) with the first word that cannot stand in the line of the pauses."""
    wrong = wrong_pause_word(words, 1) if words[0] == "pauses" else 0
    if wrong is not None:
        raise BadText(line, wrong)


def check_follow_rows(rows, begin, names):
    """Raises BadText(line, word) with the first word that cannot stand in a plan's lines, which begin at an index."""
    for line in range(begin, len(rows)):
        if line - begin >= len(names):
            raise BadText(line, 0)
        wrong = wrong_follow_word(rows[line], names[line - begin], names)
        if wrong is not None:
            raise BadText(line, wrong)
    if len(rows) - begin < len(names):
        raise BadText(len(rows), 0)


def wrong_follow_word(words, name, names):
    """The index of the first word that cannot stand in a line NAME NAME of the trip of this name, None if all can."""
    if words[0] != name:
        return 0
    if len(words) < 2 or words[1] not in names:
        return 1
    return 2 if len(words) > 2 else None


def told_table(rows):
    """The table that right lines tell."""
    return Table.of(Day(int(rows[0][1])), [told_trip(words) for words in rows[1:]])
