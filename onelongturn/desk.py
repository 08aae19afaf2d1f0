"""The desk: a board that is changed and asked by lines."""

from onelongturn.board import Board, move_all
from onelongturn.counts import plans_count
from onelongturn.curves import stands
from onelongturn.days import Day
from onelongturn.errors import BadLine
from onelongturn.fewest import fewest_number, room, stock
from onelongturn.rounds import rounds
from onelongturn.shifts import shifts
from onelongturn.stays import free
from onelongturn.tables import Table
from onelongturn.trips import told_trip
from onelongturn.turns import OneTurn, one_turn
from onelongturn.words import fits, wrong_trip_word

FIRST_LENGTH = 1440


def change_day(board, words):
    """The line `day LENGTH`."""
    board.set_minutes(int(words[1]))
    return "ok"


def change_trip(board, words):
    """The lines `run ..` and `stay ..`."""
    board.put(told_trip(words))
    return str(len(board))


def change_drop(board, words):
    """The line `drop NAME`."""
    board.drop(words[1])
    return str(len(board))


def change_pause(board, words):
    """The line `pause PLACE NUMBER`."""
    board.pause(words[1], int(words[2]))
    return "ok"


def change_later(board, words):
    """The line `later NUMBER`."""
    move_all(board, int(words[1]), 1)
    return "ok"


def change_earlier(board, words):
    """The line `earlier NUMBER`."""
    move_all(board, int(words[1]), -1)
    return "ok"


def change_back(board, words):
    """The line `undo`."""
    return "ok" if board.undo() else "nothing"


def answer_show(board, words):
    """The line `show`."""
    return ", ".join([str(board[name]) for name in board]) if len(board) > 0 else "-"


def answer_fewest(board, words):
    """The line `fewest`."""
    return str(fewest_number(board.told_table(), board.told_pauses()))


def answer_one(board, words):
    """The line `one`."""
    found = one_turn(board.told_table(), board.told_pauses())
    if not isinstance(found, OneTurn):
        return "never"
    return " ".join([str(found.number)] + list(found.taken))


def answer_turn(board, words):
    """The line `turn`."""
    found = one_turn(board.told_table(), board.told_pauses())
    if not isinstance(found, OneTurn):
        return "never"
    return " ".join(list(found.plan.turns[0]))


def answer_stands(board, words):
    """The line `stands PLACE`."""
    return str(stands(board.told_table(), board.told_pauses(), words[1]).where(1))


def answer_stock(board, words):
    """The line `stock PLACE`."""
    return str(stock(board.told_table(), board.told_pauses(), words[1]))


def answer_room(board, words):
    """The line `room PLACE`."""
    return str(room(board.told_table(), board.told_pauses(), words[1]))


def answer_plans(board, words):
    """The line `plans`."""
    return str(plans_count(board.told_table(), board.told_pauses()))


def answer_free(board, words):
    """The line `free PLACE TAKES`."""
    return str(free(board.told_table(), board.told_pauses(), words[1], int(words[2])))


def answer_shift(board, words):
    """The line `shift NUMBER NAME ..`."""
    return str(shifts(board.told_table(), board.told_pauses(), words[2:])[int(words[1])])


def answer_rounds(board, words):
    """The line `rounds NUMBER`."""
    number = rounds(board.told_table(), board.told_pauses()).vehicles_of(int(words[1]))
    return "never" if number is None else str(number)


ANSWERS = {
    "day": change_day, "run": change_trip, "stay": change_trip, "drop": change_drop, "pause": change_pause,
    "later": change_later, "earlier": change_earlier, "undo": change_back, "show": answer_show,
    "fewest": answer_fewest, "one": answer_one, "turn": answer_turn, "stands": answer_stands, "stock": answer_stock,
    "room": answer_room, "plans": answer_plans, "free": answer_free, "shift": answer_shift, "rounds": answer_rounds,
}
# The kinds of the words behind the first one; those of runs and stays are told in words.py.
KINDS = {
    "day": ("takes",), "drop": ("name",), "pause": ("place", "number"), "later": ("number",), "earlier": ("number",),
    "undo": (), "show": (), "fewest": (), "one": (), "turn": (), "stands": ("place",), "stock": ("place",),
    "room": ("place",), "plans": (), "free": ("place", "takes"), "shift": ("number", "name"), "rounds": ("takes",),
}
# The line in which the last kind can come again and again.
OPEN_LINE = "shift"


class Desk:
    """A board, at first with the day 1440 and without trips, that is changed and asked by lines."""

    def __init__(self):
        self.board = Board(Table(Day(FIRST_LENGTH)))

    def ask(self, line):
        """Carries out a line; returns its answer."""
        return answer_to(self.board, line)

    def __call__(self, line):
        return self.ask(line)

    def run(self, *lines):
        """Carries out lines, all of them or none; returns the list of their answers."""
        board = self.board.twin()
        board.past = list(self.board.past)
        answers = [answer_to(board, line) for line in lines]
        self.board = board
        return answers

    def board_now(self):
        """A new Board with the same trips, day and pauses."""
        return self.board.twin()

    def __len__(self):
        return len(self.board.past)


def answer_to(board, line):
    """Carries out a line, any value, on a board; returns its answer."""
    if not isinstance(line, str):
        raise BadLine(0)
    words = line.split(" ")
    wrong = wrong_line_word(words)
    if wrong is not None:
        raise BadLine(wrong)
    answer = ANSWERS[words[0]]
    return answer(board, words)


def wrong_line_word(words):
    """The index of the first word of a line that cannot stand, the number of the words if one is missing; or None."""
    if words[0] in ("run", "stay"):
        return wrong_trip_word(words)
    if words[0] not in KINDS:
        return 0
    kinds = KINDS[words[0]]
    for at in range(1, len(words)):
        if at <= len(kinds):
            stands_there = fits(words[at], kinds[at - 1], "", 0)
        else:
            stands_there = words[0] == OPEN_LINE and fits(words[at], kinds[-1], "", 0)
        if not stands_there:
            return at
    return len(words) if len(words) <= len(kinds) else None
