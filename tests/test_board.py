"""Points [2], [5], [8] and [11], board.py: held against a table that is made anew behind each change."""

import random

from onelongturn.board import Board
from onelongturn.days import Day
from onelongturn.errors import (
    BadAsk, BadDay, BadName, BadNumber, BadPauses, BadTrip, NoTrip, OutOfDay, TooMany, Unbalanced,
)
from onelongturn.fewest import fewest
from onelongturn.tables import Pauses, Table
from onelongturn.trips import Run, Stay, Trip
from onelongturn.turns import one_turn
from tests.support import ANY_VALUES, BILLION_DAY, Checks, any_but, balanced_trips, integer, name, number

DAY = Day(24)
TABLE = Table(DAY, Run("p", "a", 6, 2, "b"), Run("q", "b", 9, 2, "a"), Run("r", "a", 12, 2, "b"),
              Run("s", "b", 15, 2, "a"))
LEFT_OUT = ("put", "set", "drop", "later", "earlier", "pause", "minutes", "set_minutes", "nothing")


def is_trip(value):
    return isinstance(value, Trip)


def moved(trip, clock):
    """The trip that leaves at another clock."""
    if isinstance(trip, Run):
        return Run(trip.name, trip.start, clock, trip.takes, trip.goal)
    return Stay(trip.name, trip.start, clock, trip.takes)


class Plain:
    """What a board shows, in plain words, with all that was shown before."""

    def __init__(self, table, pauses):
        self.now = (table.day.length, {trip.name: trip for trip in table}, {place: pauses[place] for place in pauses})
        self.past = []

    def change(self, length, trips, pauses):
        self.past.append(self.now)
        self.now = (length, trips, pauses)

    def places(self):
        return {place for trip in self.now[1].values() for place in (trip.start, trip.goal)}

    def unbalanced(self):
        trips = list(self.now[1].values())
        return [place for place in sorted(self.places())
                if sum(trip.start == place for trip in trips) != sum(trip.goal == place for trip in trips)]


class TestAgainstATable(Checks):
    def check_shown(self, board, plain):
        """All that the board tells, by a table that is made anew."""
        length, trips, pauses = plain.now
        self.same([list(board), len(board), board.minutes], [sorted(trips), len(trips), length])
        self.same([board.deeds, board.told_pauses() == Pauses.of(pauses)], [len(plain.past), True])
        for word in [*trips, "nobody"]:
            self.same(word in board, word in trips)
        for word, trip in trips.items():
            self.same([board[word] == trip, str(board[word])], [True, str(trip)])
        wrong = plain.unbalanced()
        self.same(board.is_level, not wrong)
        if wrong:
            self.raises(Unbalanced(wrong[0]), board.told_table)
            self.same([board.fewest_now(), board.one_now()], [None, None])
            return
        table = Table(Day(length), *trips.values())
        self.same(board.told_table() == table, True)
        self.same(board.fewest_now(), fewest(table, Pauses.of(pauses)).number)
        found = one_turn(table, Pauses.of(pauses)) if trips else None
        self.same(board.one_now(), found.number if found else None)

    def change_both(self, dice, board, plain, places):
        """Some change of both, which can be one that changes nothing."""
        length, trips, pauses = plain.now
        kind = dice.choice(LEFT_OUT)
        if kind in ("put", "set") or not trips:
            word = dice.choice(sorted(trips)) if trips and dice.random() < 0.4 else "n" + dice.choice("abcdefgh")
            start, goal = dice.choice(places), dice.choice(places)
            trip = Run(word, start, dice.randrange(length), dice.randint(1, min(2 * length, 10 ** 12)), goal)
            if dice.random() < 0.2:
                trip = Stay(word, start, dice.randrange(length), dice.randint(1, length))
            after = {**trips, word: trip}
            if len(after) > 40 or len({one for each in after.values() for one in (each.start, each.goal)}) > 8:
                return
            if kind == "put":
                self.same(board.put(trip), None)
            else:
                board[word] = trip
            plain.change(length, after, pauses)
        elif kind == "drop":
            word = dice.choice(sorted(trips))
            self.same(board.drop(word), None)
            plain.change(length, {one: trip for one, trip in trips.items() if one != word}, pauses)
        elif kind in ("later", "earlier"):
            far = dice.choice((0, 1, -1, length, dice.randint(-10 ** 30, 10 ** 30)))
            same = board
            if kind == "later":
                board += far
            else:
                board -= far
            self.assertIs(board, same)
            far = far if kind == "later" else -far
            plain.change(length, {one: moved(trip, (trip.leaves + far) % length) for one, trip in trips.items()}, pauses)
        elif kind == "pause":
            place, many = dice.choice([*places, "zz"]), dice.choice((0, 1, dice.randrange(min(3 * length, 10 ** 12)), 10 ** 12))
            self.same(board.pause(place, many), None)
            plain.change(length, trips, {**pauses, place: many})
        elif kind == "nothing" and plain.past:
            self.same(board.undo(), True)
            plain.now = plain.past.pop()
        else:
            least = max([trip.leaves for trip in trips.values()], default=0) + 1
            other = dice.choice((length, least, min(least + dice.randrange(30), 10 ** 12), 10 ** 12))
            if kind == "minutes":
                board.minutes = other
            else:
                self.same(board.set_minutes(other), None)
            plain.change(other, trips, pauses)

    def test_changes_and_what_is_taken_back(self):
        dice = random.Random(180)
        level = 0
        for at in range(60):
            places = ("ab", "abcdefgh", "a")[at % 3]
            table = Table(DAY, *balanced_trips(dice, 24, dice.randint(0, 12), places, 30))
            pauses = Pauses(a=dice.randrange(40))
            board, plain = Board(table, pauses), Plain(table, pauses)
            self.check_shown(board, plain)
            for _ in range(15):
                self.change_both(dice, board, plain, places)
                self.check_shown(board, plain)
                level += board.is_level
            for _ in range(len(plain.past)):
                self.same(board.undo(), True)
                plain.now = plain.past.pop()
                self.check_shown(board, plain)
            self.same([board.undo(), board.undo(), board.deeds], [False, False, 0])
            self.same([board.told_table() == table, board.told_pauses() == pauses], [True, True])
        self.assertTrue(level > 100)

    def test_trials(self):
        dice = random.Random(181)
        for at in range(60):
            places = ("ab", "abc")[at % 2]
            table = Table(DAY, *balanced_trips(dice, 24, dice.randint(1, 6), places, 30))
            board, plain = Board(table), Plain(table, Pauses())
            for _ in range(dice.randrange(5)):
                self.change_both(dice, board, plain, places)
            self.trial_of(dice, board, plain, places, 3)
            self.check_shown(board, plain)
            while plain.past:
                self.same(board.undo(), True)
                plain.now = plain.past.pop()
                self.check_shown(board, plain)
            self.same(board.undo(), False)

    def trial_of(self, dice, board, plain, places, deep):
        """Changes in a block, in which blocks can be nested, and which an error can leave."""
        now, past = plain.now, list(plain.past)

        def work(same):
            self.assertIs(same, board)
            for _ in range(dice.randrange(6)):
                if dice.random() < 0.4:
                    self.same(same.undo(), bool(plain.past))
                    if plain.past:
                        plain.now = plain.past.pop()
                elif dice.random() < 0.3 and deep > 0:
                    self.trial_of(dice, same, plain, places, deep - 1)
                else:
                    self.change_both(dice, same, plain, places)
                self.check_shown(same, plain)
            if dice.random() < 0.3:
                same.drop("nobody")
            return ("told", len(same))

        try:
            if dice.random() < 0.5:
                told = board.tried(work)
                self.same(told[0], "told")
            else:
                with board.trial() as same:
                    work(same)
        except NoTrip as error:
            self.same(error.name, "nobody")
        plain.now, plain.past = now, past
        self.check_shown(board, plain)


class TestTrial(Checks):
    def test_a_call_by_itself_changes_nothing(self):
        board = Board(TABLE)
        block = board.trial()
        board.drop("p")
        self.same([len(board), board.deeds], [3, 1])
        with block as same:
            same.drop("q")
            self.same([len(board), board.deeds], [2, 2])
        self.same([len(board), board.deeds, "p" in board, "q" in board], [3, 1, False, True])
        board.trial()
        self.same([len(board), board.deeds], [3, 1])

    def test_errors_go_on(self):
        board = Board(TABLE)
        board.drop("p")
        for error in (ValueError("own"), KeyError("k"), NoTrip("x"), ZeroDivisionError()):
            def work(same):
                same.undo()
                same += 3
                raise error
            with self.assertRaises(type(error)) as caught:
                board.tried(work)
            self.assertIs(caught.exception, error)
            with self.assertRaises(type(error)):
                with board.trial() as same:
                    work(same)
            self.same([list(board), board.deeds, board["q"].leaves], [["q", "r", "s"], 1, 9])

    def test_what_is_taken_back_and_made_anew(self):
        board = Board(TABLE, Pauses(a=2))
        board.drop("p")
        board.drop("q")
        with board.trial():
            self.same([board.undo(), board.undo(), board.undo(), board.deeds, len(board)], [True, True, False, 0, 4])
            board.pause("b", 7)
            board.minutes = 100
            with board.trial():
                self.same([board.undo(), board.undo(), board.undo()], [True, True, False])
                board.drop("s")
            self.same([board.deeds, len(board), board.minutes, board.told_pauses()["b"]], [2, 4, 100, 7])
        self.same([board.deeds, list(board), board.minutes], [2, ["r", "s"], 24])
        self.same([board.undo(), list(board), board.undo(), board.told_table() == TABLE, board.undo()],
                  [True, ["q", "r", "s"], True, True, False])

    def test_tried_returns_what_work_returns(self):
        board = Board(TABLE)
        for value in ANY_VALUES:
            self.assertIs(board.tried(lambda same: value), value)
        self.same(board.tried(work=lambda same: (same.drop("p"), same.is_level)), (None, False))
        self.assertIs(board.tried(lambda same: same), board)
        self.same(board.deeds, 0)


class TestTwin(Checks):
    def test_its_own_changes(self):
        board = Board(TABLE, Pauses(a=2))
        board.drop("p")
        board.minutes = 30
        twin = board.twin()
        self.same([type(twin), list(twin), twin.minutes, twin.told_pauses() == Pauses(a=2), twin.deeds, twin.undo()],
                  [Board, ["q", "r", "s"], 30, True, 0, False])
        twin.drop("q")
        twin += 5
        twin.pause("a", 9)
        self.same([list(board), board["r"].leaves, board.told_pauses()["a"], board.deeds], [["q", "r", "s"], 12, 2, 2])
        board.undo()
        self.same([list(twin), twin.minutes, twin["r"].leaves, twin.deeds], [["r", "s"], 30, 17, 3])
        self.same([twin.twin().deeds, list(twin.twin())], [0, ["r", "s"]])


class TestBounds(Checks):
    def test_forty_trips_and_one_more(self):
        dice = random.Random(182)
        table = Table(Day(BILLION_DAY), *balanced_trips(dice, BILLION_DAY, 40, "abcdefgh", BILLION_DAY))
        board = Board(table, Pauses.of({place: 10 ** 12 for place in "abcdefgh"}))
        self.same(board.fewest_now(), fewest(table, board.told_pauses()).number)
        for trip in (Stay("zz", "a", 0, 1), Run("zz", "a", 0, 1, "z"), Run("zz", "y", 0, 1, "z")):
            self.raises(TooMany("trips", 40), board.put, trip)
            self.raises(TooMany("trips", 40), board.__setitem__, "zz", trip)
        self.raises(OutOfDay("zz"), board.put, Stay("zz", "a", BILLION_DAY, 1))
        self.raises(TooMany("places", 8), board.put, Run(table.names[3], "a", 0, 1, "z"))
        self.same(board.deeds, 0)
        board.put(Run(table.names[3], "a", BILLION_DAY - 1, BILLION_DAY, "b"))
        board -= 10 ** 60
        board += 10 ** 60
        self.same([len(board), board.deeds, board[table.names[3]].leaves], [40, 3, BILLION_DAY - 1])

    def test_eight_places_and_one_more(self):
        board = Board(Table(DAY))
        for place in "abcdefgh":
            board.put(Run("t" + place, place, 1, 2, place))
        self.raises(TooMany("places", 8), board.put, Stay("w", "i", 1, 1))
        self.raises(TooMany("places", 8), board.put, Run("ta", "a", 1, 1, "i"))
        self.raises(TooMany("places", 8), board.__setitem__, "ta", Run("ta", "j", 1, 1, "i"))
        board["ta"] = Run("ta", "i", 1, 1, "i")
        board.put(Run("x", "b", 1, 1, "c"))
        self.same([len(board), board.deeds, board.is_level, board.fewest_now()], [9, 10, False, None])

    def test_without_trips(self):
        board = Board(Table(Day(1)))
        self.same([len(board), list(board), board.is_level, board.fewest_now(), board.one_now()], [0, [], True, 0, None])
        board += 5
        board.minutes = 10 ** 12
        self.same([board.told_table() == Table(Day(10 ** 12)), board.deeds], [True, 2])

    def test_without_a_plan_of_one_turn(self):
        board = Board(TABLE)
        board.put(Stay("w", "c", 1, 2))
        self.same([board.fewest_now(), board.one_now()], [2, None])
        board.drop("w")
        self.same([board.one_now(), board.drop("p"), board.one_now(), board.fewest_now()], [1, None, None, None])

    def test_changes_that_change_nothing_count(self):
        board = Board(TABLE, Pauses(a=2))
        board["p"] = TABLE["p"]
        board.put(TABLE["p"])
        board += 0
        board -= 0
        board += 24
        board.pause("a", 2)
        board.pause("z", 0)
        board.minutes = 24
        board.set_minutes(24)
        self.same([board.deeds, board.told_table() == TABLE, board.told_pauses() == Pauses(a=2)], [9, True, True])
        self.same([board.undo() for _ in range(10)], [True] * 9 + [False])


class TestErrors(Checks):
    def setUp(self):
        self.board = Board(TABLE, Pauses(a=2))
        self.board.drop("s")

    def tearDown(self):
        board = self.board
        self.same([list(board), board.minutes, board.deeds], [["p", "q", "r"], 24, 1])
        self.same([board.told_pauses() == Pauses(a=2), [str(board[word]) for word in board]],
                  [True, [str(TABLE[word]) for word in "pqr"]])

    def test_made(self):
        for value in any_but(lambda value: isinstance(value, Table)):
            self.raises(BadAsk("table"), Board, value, value)
            self.raises(BadAsk("table"), Board, pauses=value, table=value)
        for value in any_but(lambda value: value is None or isinstance(value, Pauses)):
            self.raises(BadAsk("pauses"), Board, TABLE, value)
        self.same(Board(pauses=None, table=TABLE).told_pauses() == Pauses(), True)

    def test_names(self):
        for value in ANY_VALUES + ["s", "P"]:
            self.raises(NoTrip(value), lambda: self.board[value])
            self.raises(NoTrip(value), self.board.drop, value)
            self.raises(NoTrip(value), self.board.drop, name=value)
            self.same(value in self.board, False)

    def test_put(self):
        for value in any_but(is_trip):
            self.raises(BadAsk("trip"), self.board.put, value)
            self.raises(BadAsk("trip"), self.board.put, trip=value)
            self.raises(BadAsk("trip"), self.board.__setitem__, value, value)
        for value in any_but(lambda value: value == "w") + ["p"]:
            self.raises(BadTrip("name"), self.board.__setitem__, value, Stay("w", "a", 24, 2))
        for leaves in (24, 25, 10 ** 12):
            self.raises(OutOfDay("w"), self.board.put, Stay("w", "a", leaves, 2))
            self.raises(OutOfDay("p"), self.board.__setitem__, "p", Run("p", "a", leaves, 2, "x"))

    def test_signs(self):
        board = self.board
        for value in any_but(integer):
            with self.assertRaises(BadNumber) as caught:
                board += value
            self.assertIs(caught.exception.value, value)
            with self.assertRaises(BadNumber) as caught:
                board -= value
            self.assertIs(caught.exception.value, value)

    def test_pause(self):
        for value in any_but(name):
            self.raises(BadName(value), self.board.pause, value, value)
            self.raises(BadName(value), self.board.pause, number=-1, place=value)
        for value in any_but(number) + [-1, 10 ** 12 + 1]:
            self.raises(BadPauses("zz"), self.board.pause, "zz", value)
            self.raises(BadPauses("a"), self.board.pause, number=value, place="a")

    def test_minutes(self):
        def assign(value):
            self.board.minutes = value

        for value in any_but(lambda value: integer(value) and 1 <= value <= 10 ** 12) + [0, -1, 10 ** 12 + 1]:
            self.raises(BadDay(value), self.board.set_minutes, value)
            self.raises(BadDay(value), self.board.set_minutes, value=value)
            self.raises(BadDay(value), assign, value)
        for value, wrong in ((12, "r"), (10, "r"), (9, "q"), (7, "q"), (6, "p"), (1, "p")):
            self.raises(OutOfDay(wrong), self.board.set_minutes, value)
            self.raises(OutOfDay(wrong), assign, value)

    def test_balance(self):
        self.raises(Unbalanced("a"), self.board.told_table)
        with self.board.trial() as same:
            same.put(Run("t", "x", 1, 2, "a"))
            self.raises(Unbalanced("b"), same.told_table)
            same.put(Run("u", "b", 1, 2, "x"))
            self.same([same.is_level, same.told_table().names], [True, ("p", "q", "r", "t", "u")])


class TestWhatIsPassed(Checks):
    def test_nothing_is_changed(self):
        pauses = Pauses(a=2)
        board = Board(TABLE, pauses)
        board += 5
        board.pause("a", 7)
        board.drop("p")
        self.same([TABLE["q"].leaves, TABLE.names, pauses == Pauses(a=2)], [9, ("p", "q", "r", "s"), True])
        told = board.told_pauses()
        board.pause("a", 8)
        self.same([told["a"], board.told_pauses()["a"]], [7, 8])
        rows = list(board)
        rows.clear()
        self.same(list(board), ["q", "r", "s"])
        for word in board:
            board.drop(word)
        self.same(list(board), [])
