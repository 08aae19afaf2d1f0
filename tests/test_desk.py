"""desk.py: each line of the document's table, held against a board and the functions that its questions name."""

import random
import re

from onelongturn.board import Board
from onelongturn.counts import plans_count
from onelongturn.curves import stands
from onelongturn.days import Day
from onelongturn.desk import Desk
from onelongturn.errors import (
    BadAsk, BadLine, BadNumber, NoPlace, NoTrip, OutOfDay, TooMany, TurnError, Unbalanced,
)
from onelongturn.fewest import fewest, room, stock
from onelongturn.rounds import rounds
from onelongturn.shifts import shifts
from onelongturn.stays import free
from onelongturn.tables import Pauses, Table
from onelongturn.trips import Run, Stay, Trip
from onelongturn.turns import OneTurn, one_turn
from tests.support import BILLION_DAY, FIELDS, Checks, any_but, balanced_trips

LOOPS = ("day 24", "run u a 6 24 a", "run v a 18 24 a")
TABLE = ("day 24", "run p a 6 2 b", "run q b 9 2 a", "run r a 12 2 b", "run s b 15 2 a")
QUESTIONS = ("fewest", "one", "turn", "stands a", "stock a", "room a", "plans", "free a 1", "shift 1 p", "rounds 2")
# What can stand behind the first word of a line.
FORMS = {
    "day": ("from one",), "run": ("name", "name", "number", "from one", "name"), "stay": ("name", "name", "number", "from one"),
    "drop": ("name",), "pause": ("name", "number"), "later": ("number",), "earlier": ("number",), "undo": (), "show": (),
    "fewest": (), "one": (), "turn": (), "stands": ("name",), "stock": ("name",), "room": ("name",), "plans": (),
    "free": ("name", "from one"), "shift": ("number", "name"), "rounds": ("from one",),
}
ODD_WORDS = [
    "", "a", "p", "zz", "day", "abcdefgh", "abcdefghi", "A", "a1", "-", "0", "1", "24", "01", "00", "+1", "-1", "1.0", "1_0", "a\n",
    "1\n", "1000000000000", "1000000000001", "9999999999999", "10000000000000", "9" * 5000, "\u00e4", "\u0663",
]


def fits(word, form):
    if form == "name":
        return re.fullmatch("[a-z]{1,8}", word) is not None
    least = 1 if form == "from one" else 0
    return re.fullmatch("0|[1-9][0-9]{0,12}", word) is not None and least <= int(word) <= 10 ** 12


def told_wrong(line):
    """The word of the BadLine of a line by the words of the document, None for a right one."""
    words = line.split(" ")
    if words[0] not in FORMS:
        return 0
    forms = ("",) + FORMS[words[0]]
    if words[0] == "shift":
        forms += ("name",) * max(0, len(words) - 3)
    for at in range(1, len(words)):
        if at == len(forms) or not fits(words[at], forms[at]):
            return at
    return len(words) if len(words) < len(forms) else None


def desk_of(*lines):
    desk = Desk()
    desk.run(*lines)
    return desk


class Shown(Checks):
    def shown(self, desk):
        """All that a desk shows."""
        board = desk.board_now()
        self.same([type(board), board.deeds], [Board, 0])
        return [desk.ask("show"), board.minutes, str(board.told_pauses()), len(desk)]


class TestLines(Shown):
    def test_what_stands_at_first(self):
        desk = Desk()
        self.same(self.shown(desk), ["-", 1440, "-", 0])
        self.same(desk.run(), [])
        self.same(desk.run("undo", "show", "fewest", "plans", "undo"), ["nothing", "-", "0", "1", "nothing"])
        self.raises(NoPlace("a"), desk.ask, "stands a")
        for line in ("one", "turn", "rounds 1"):
            self.raises(BadAsk("table"), desk.ask, line)
        self.raises(NoTrip("p"), desk.ask, "shift 1 p")

    def test_changes(self):
        desk = Desk()
        rows = [("day 24", "ok"), ("run p a 6 2 b", "1"), ("run q b 9 2 a", "2"), ("stay w b 0 1", "3"), ("run p a 7 2 b", "3"),
                ("pause a 2", "ok"), ("pause zz 1000000000000", "ok"), ("pause a 0", "ok"), ("later 20", "ok"),
                ("earlier 1000000000000", "ok"), ("drop w", "2"), ("day 1000000000000", "ok"), ("stay q c 999999999999 7", "2")]
        states = [self.shown(desk)]
        for line, answer in rows:
            self.same(desk.ask(line=line), answer)
            states.append(self.shown(desk))
            self.same(states[-1][3], len(states) - 1)
        self.same(states[11][:3], ["run p a 11 2 b, run q b 13 2 a", 24, "zz 1000000000000"])
        self.same(states[-1][:3], ["run p a 11 2 b, stay q c 999999999999 7", 10 ** 12, "zz 1000000000000"])
        while len(states) > 1:
            states.pop()
            self.same([desk("undo"), self.shown(desk)], ["ok", states[-1]])
        self.same([desk("undo"), desk(line="undo"), self.shown(desk)], ["nothing", "nothing", states[0]])

    def test_answers_word_for_word(self):
        desk = desk_of(*LOOPS)
        self.same(desk.run("fewest", "one", "turn", "stands a", "stock a", "room a", "plans", "free a 3", "shift 12 v"),
                  ["2", "3 a", "u v", "-", "0", "0", "1", "-", "2"])
        self.same(desk.run("rounds 1", "rounds 7", "pause a 12", "one", "turn", "rounds 2", "rounds 6", "rounds 1000000000000"),
                  ["3", "3", "ok", "3", "u v", "3", "4", "3"])
        self.same(desk.run("run x c 1 2 c", "one", "turn", "rounds 5", "fewest", "stands c", "show"),
                  ["3", "never", "never", "never", "4", "3-0", "run u a 6 24 a, run v a 18 24 a, run x c 1 2 c"])
        desk = desk_of(*TABLE, "pause a 2")
        self.same(desk.run(*QUESTIONS), ["2", "2", "p q r s", "13-11", "2", "2", "2", "13-11", "2", "2"])
        self.same(desk.run("stands b", "stock b", "room b", "free b 1", "free a 6", "free a 24", "shift 0 q", "shift 4 q p q"),
                  ["8-8 14-14", "0", "1", "8-8 14-14", "13-6", "-", "2", "2"])
        two = desk_of("day 24", "run o a 0 12 b", "run r b 12 12 a", "run x b 6 12 a", "run y a 18 12 b", "run g b 1 12 c",
                      "run h c 13 12 b", "run e a 2 24 a")
        self.same(two.run("one", "turn")[0], "6 a b")
        self.same(sorted(two.ask("turn").split(" ")), list("eghorxy"))

    def test_against_a_board_and_the_functions(self):
        dice = random.Random(230)
        for at in range(60):
            length = dice.choice((24, 24, 2, BILLION_DAY))
            table = Table(Day(length), *balanced_trips(dice, length, dice.randint(1, 9), dice.choice(("ab", "abcdefgh")), length))
            pauses = Pauses.of({place: dice.randrange(length) for place in table.places if dice.random() < 0.5})
            desk = desk_of(f"day {length}", *[str(trip) for trip in table], *[f"pause {one} {pauses[one]}" for one in pauses])
            self.check_questions(dice, desk, table, pauses)

    def check_questions(self, dice, desk, table, pauses):
        found, length = one_turn(table, pauses), table.day.length
        self.same(desk("show"), ", ".join(str(trip) for trip in table))
        self.same([desk("fewest"), desk("plans")], [str(fewest(table, pauses).number), str(plans_count(table, pauses))])
        if isinstance(found, OneTurn):
            self.same([desk("one"), desk("turn")],
                      [" ".join([str(found.number), *found.taken]), " ".join(found.plan.turns[0])])
        else:
            self.same([desk("one"), desk("turn"), desk("rounds 3")], ["never"] * 3)
        for days in (1, 2, 10 ** 12):
            told = rounds(table, pauses).vehicles_of(days)
            self.same(desk(f"rounds {days}"), "never" if told is None else str(told))
        for place in table.places:
            curve = stands(table, pauses, place)
            self.same([desk("stands " + place), desk("room " + place)], [str(curve.where(1)), str(curve.greatest)])
            self.same(desk("stock " + place), str(stock(table, pauses, place)))
            self.same(desk("room " + place), str(room(table, pauses, place)))
            for takes in (1, dice.randint(1, length), length, 10 ** 12):
                self.same(desk(f"free {place} {takes}"), str(free(table, pauses, place, takes)))
        for _ in range(5):
            names = [dice.choice(table.names) for _ in range(dice.randint(1, 9))]
            far = dice.choice((0, 1, dice.randrange(length), 10 ** 12))
            told = desk(" ".join(["shift", str(far), *names]))
            self.same(told, str(fewest(table.moved(far, *names), pauses).number))
            self.same(told, str(shifts(table, pauses, names)[far]))
        self.same(len(desk), 1 + len(table) + len(pauses))

    def test_forty_trips_and_eight_places_on_the_longest_day(self):
        dice = random.Random(231)
        table = Table(Day(BILLION_DAY), *balanced_trips(dice, BILLION_DAY, 40, "abcdefgh", BILLION_DAY))
        pauses = Pauses.of({place: BILLION_DAY for place in "abcdefgh"})
        desk = desk_of("day 1000000000000", *[str(trip) for trip in table], *[f"pause {place} 1000000000000" for place in pauses])
        self.check_questions(dice, desk, table, pauses)
        self.raises(TooMany("trips", 40), desk.ask, "stay zz a 0 1")
        self.raises(TooMany("places", 8), desk.ask, f"run {table.names[0]} a 0 1 z")
        self.same(desk(f"stay {table.names[0]} a 999999999999 1000000000000"), "40")


class TestWrongLines(Shown):
    def test_no_string(self):
        desk = desk_of(*TABLE)
        for value in any_but(lambda value: isinstance(value, str)):
            self.raises(BadLine(0), desk.ask, value)
            self.raises(BadLine(0), desk, line=value)
            self.raises(BadLine(0), desk.run, "later 3", value)
        self.same(self.shown(desk), self.shown(desk_of(*TABLE)))

    def test_each_line_with_a_word_otherwise(self):
        rows = ["day 24", "run p a 6 2 b", "stay w a 6 2", "drop p", "pause a 3", "later 3", "earlier 3", "undo", "show",
                "shift 3 p q r", "shift 0 p", "stands a", "stock a", "room b", "free a 3", "rounds 2", "fewest", "one", "turn", "plans"]
        self.assertEqual({row.split(" ")[0] for row in rows}, set(FORMS))
        for row in rows:
            words = row.split(" ")
            spoilt = [" ".join(words[:at] + words[at + 1:]) for at in range(len(words))]
            spoilt += [" ".join(words[:at + 1] + words[at:]) for at in range(len(words))]
            spoilt += [" ".join(words[:at]) for at in range(1, len(words))]
            for at in range(len(words) + 1):
                spoilt += [" ".join(words[:at] + [odd] + words[at:]) for odd in ODD_WORDS]
                spoilt += [" ".join(words[:at] + [odd] + words[at + 1:]) for odd in ODD_WORDS]
                spoilt += [" ".join(words[:at][::-1] + words[at:]), row + "\n", "\n" + row, row.upper(), row + "  x", " " + row]
            for line in [row] + spoilt:
                self.check_line(line)

    def check_line(self, line):
        """A line that cannot stand is told by its word, and no other one."""
        desk = desk_of(*TABLE, "stay w a 0 1")
        before, wrong = self.shown(desk), told_wrong(line)
        if wrong is not None:
            self.raises(BadLine(wrong), desk.ask, line)
            self.same(self.shown(desk), before)
            return
        try:
            desk.ask(line)
        except BadLine as error:
            self.fail((line, error.word))
        except TurnError:
            self.same(self.shown(desk), before)

    def test_first_words(self):
        for word in ("", " ", "\n", "Day", "days", "trip", "-", "0", "pauses", "quit", "show,"):
            for line in (word, word + " 24", word + " x y"):
                self.raises(BadLine(0), Desk().ask, line)

    def test_words_that_are_missing(self):
        for line, wrong in (("day", 1), ("run", 1), ("run p a 6 2", 5), ("stay w a", 3), ("pause a", 2), ("pause", 1), ("shift", 1),
                            ("shift 3", 2), ("free a", 2), ("rounds", 1), ("later", 1), ("drop", 1), ("stands", 1)):
            self.raises(BadLine(wrong), desk_of(*TABLE).ask, line)

    def test_bounds_of_numbers(self):
        for line, wrong in (("day 0", 1), ("day 1000000000001", 1), ("run p a 1000000000001 2 b", 3), ("run p a 0 0 b", 4),
                            ("stay p a 0 1000000000001", 4), ("pause a 1000000000001", 2), ("pause a -0", 2), ("rounds 0", 1),
                            ("rounds 1000000000001", 1), ("free a 0", 2), ("later -1", 1), ("earlier 1000000000001", 1),
                            ("shift 1000000000001 p", 1), ("shift 00 p", 1)):
            self.raises(BadLine(wrong), desk_of(*TABLE).ask, line)


class TestErrorsOfWhatIsCalled(Shown):
    def check_refused(self, desk, *rows):
        before = self.shown(desk)
        for line, error in rows:
            self.raises(error, desk.ask, line)
            self.raises(error, desk.run, "later 5", "pause a 9", "undo", "undo", "later 7", "undo", line)
            self.same(self.shown(desk), before)

    def test_changes(self):
        eight = [f"stay w{place} {place} 0 1" for place in "abcdefgh"]
        self.check_refused(desk_of(*TABLE), ("run p a 24 2 b", OutOfDay("p")), ("stay w a 1000000000000 1", OutOfDay("w")),
                           ("drop a", NoTrip("a")), ("drop w", NoTrip("w")), ("day 15", OutOfDay("s")), ("day 1", OutOfDay("p")))
        self.check_refused(desk_of("day 24", *eight), ("stay x i 0 1", TooMany("places", 8)), ("run wa a 0 1 i", TooMany("places", 8)))

    def test_unbalanced_ahead_of_all_that_a_question_refuses(self):
        rows = [*QUESTIONS, "stands zz", "stock zz", "room zz", "free zz 3", "shift 3 zz", "shift 0 zz a", "rounds 1"]
        self.check_refused(desk_of(*TABLE, "drop p"), *[(line, Unbalanced("a")) for line in rows])
        self.check_refused(desk_of("stay a c 0 1", "run p z 1 1 y"), *[(line, Unbalanced("y")) for line in rows])

    def test_questions(self):
        self.check_refused(desk_of(*TABLE), ("stands c", NoPlace("c")), ("stock p", NoPlace("p")), ("room c", NoPlace("c")),
                           ("free c 3", NoPlace("c")), ("shift 3 a p", NoTrip("a")), ("shift 3 p w a", NoTrip("w")))
        self.check_refused(desk_of("day 24"), ("one", BadAsk("table")), ("turn", BadAsk("table")), ("rounds 4", BadAsk("table")),
                           ("stands a", NoPlace("a")), ("shift 3 p", NoTrip("p")), ("free a 3", NoPlace("a")))

    def test_a_free_stay_of_a_day_or_more_is_none(self):
        self.same(desk_of(*TABLE).run("free a 24", "free a 1000000000000"), ["-", "-"])
        with self.assertRaises(BadLine):
            desk_of(*TABLE).ask("free a 1000000000001")


class TestSessions(Shown):
    def any_line(self, dice):
        word, place = dice.choice("pqrst"), dice.choice("ab")
        trip = f"run {word} {place} {dice.randrange(30)} {dice.randint(1, 40)} {dice.choice('ab')}"
        return dice.choice((f"day {dice.randint(15, 40)}", trip, trip, trip, f"stay {word} {place} {dice.randrange(20)} 5",
                            f"drop {word}", f"pause {place} {dice.randrange(9)}", f"later {dice.randrange(50)}",
                            f"earlier {dice.randrange(50)}", "undo", "undo", "show", *QUESTIONS, "nothing", "free b 2 2", ""))

    def change_board(self, board, line):
        """Carries out a right line on a board; the answer, None for questions."""
        words = line.split(" ")
        if words[0] in ("run", "stay"):
            trip = Trip.read(line)
            board[trip.name] = trip
            return str(len(board))
        if words[0] == "drop":
            board.drop(words[1])
            return str(len(board))
        if words[0] == "undo":
            return "ok" if board.undo() else "nothing"
        if words[0] == "day":
            board.minutes = int(words[1])
        elif words[0] == "pause":
            board.pause(words[1], int(words[2]))
        elif words[0] == "later":
            board += int(words[1])
        elif words[0] == "earlier":
            board -= int(words[1])
        elif words[0] == "fewest":
            board.told_table()
            return str(board.fewest_now())
        else:
            return None
        return "ok"

    def carried_out(self, call, *args):
        """What a call returns, or its error with the fields."""
        try:
            return call(*args)
        except TurnError as error:
            return (type(error).__name__, [getattr(error, field) for field in FIELDS[type(error).__name__]])

    def test_line_by_line_against_a_board(self):
        dice = random.Random(232)
        for _ in range(60):
            desk, board = Desk(), Board(Table(Day(1440)))
            for _ in range(40):
                line = self.any_line(dice)
                answer = self.carried_out(desk.ask, line)
                if told_wrong(line) is not None:
                    self.same(answer, ("BadLine", [told_wrong(line)]))
                else:
                    wanted = self.carried_out(self.change_board, board, line)
                    if wanted is not None:
                        self.same(answer, wanted)
                self.same(self.shown(desk), [", ".join(str(board[word]) for word in board) or "-", board.minutes,
                                             str(board.told_pauses()), board.deeds])

    def test_runs_are_whole_or_nothing(self):
        dice = random.Random(233)
        refused = 0
        for _ in range(300):
            desk, other = Desk(), Desk()
            for line in [self.any_line(dice) for _ in range(10)]:
                self.same(self.carried_out(desk.ask, line), self.carried_out(other.ask, line))
            lines = [self.any_line(dice) for _ in range(dice.randint(0, 6))]
            before, told = self.shown(desk), self.carried_out(lambda: desk.run(*lines))
            if isinstance(told, list):
                self.same(told, [other.ask(line) for line in lines])
                self.same(self.shown(desk), self.shown(other))
            else:
                refused += 1
                self.same(self.shown(desk), before)
                while other.ask("undo") == "ok":
                    self.same([desk.ask("undo"), self.shown(desk)], ["ok", self.shown(other)])
                self.same(desk.ask("undo"), "nothing")
        self.assertTrue(100 < refused < 280)

    def test_board_now_is_a_board_of_its_own(self):
        desk = desk_of(*TABLE, "pause a 2")
        board = desk.board_now()
        self.same([board.deeds, board.undo(), board.minutes, str(board.told_pauses()), len(board)], [0, False, 24, "a 2", 4])
        board.drop("p")
        board.pause("a", 5)
        board.minutes = 99
        self.same(self.shown(desk), self.shown(desk_of(*TABLE, "pause a 2")))
        desk.run("drop q", "later 3")
        self.same([list(board), board["q"].leaves, len(desk), desk("undo"), desk("undo")], [["q", "r", "s"], 9, 8, "ok", "ok"])
        self.same([board.told_pauses()["a"], Run("p", "a", 6, 2, "b") == desk.board_now()["p"]], [5, True])

    def test_two_desks(self):
        one, other = Desk(), Desk()
        one.run("day 24", "stay w a 1 2")
        self.same([other("show"), other.ask("undo"), len(other)], ["-", "nothing", 0])
        self.same([str(Stay("w", "a", 1, 2)), one("show")], ["stay w a 1 2", "stay w a 1 2"])
        with self.assertRaises(BadNumber):
            one.board_now().told_table().moved(True)
