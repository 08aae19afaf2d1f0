"""What the tests share: checks of values with their kinds, of errors with their fields, and of examples."""

import unittest

from onelongturn import errors
from onelongturn.clocks import Clocks
from onelongturn.curves import Curve
from onelongturn.days import Day
from onelongturn.plans import Plan
from onelongturn.tables import Pauses, Table
from onelongturn.trips import Run, Stay

FIELDS = {
    "BadDay": ("value",), "BadName": ("value",), "BadNumber": ("value",), "BadClocks": ("at",),
    "BadTrip": ("part",), "BadTable": ("at",), "BadPauses": ("place",), "BadPlan": ("name",),
    "BadAsk": ("part",), "BadText": ("line", "word"), "BadLine": ("word",),
    "NoTrip": ("name",), "NoPlace": ("place",), "Twice": ("name",), "OutOfDay": ("name",),
    "Unbalanced": ("place",), "Unlike": ("part",), "Spare": ("place",), "TooMany": ("what", "most"),
    "Lacking": ("name",),
}
BILLION_DAY = 10 ** 12
PACKAGE_OBJECTS = [
    Day(3), Clocks(Day(3)), Clocks(Day(24), (3, 5)), Run("p", "a", 6, 2, "b"), Stay("w", "a", 6, 2),
    errors.BadDay(3), errors.TurnError(), Table(Day(3)), Table(Day(24), Stay("w", "a", 6, 2)), Pauses(), Pauses(a=2),
    Curve(Day(24), [(0, 1)]), Plan(Table(Day(3)), None, {}),
]
PLAIN_VALUES = [
    None, True, False, 0, 1, -1, 7, 10 ** 12 + 1, 10 ** 69, -(10 ** 69), "", "a", "abcdefgh", "abcdefghi", "A",
    "24", "a b", "x\ny", "z" * 3000, (), (1,), (1, 2), ("a", 1), [], [1], [(1, 2)], {}, {"a": 1}, {1: 2},
    ((), [[[[{}]]]]),
]
ANY_VALUES = PLAIN_VALUES + PACKAGE_OBJECTS


def any_but(fits):
    """All sorts of values, but for those that fit."""
    return [value for value in ANY_VALUES if not fits(value)]


def integer(value):
    return type(value) is int


def moment(value):
    return integer(value) and abs(value) < 10 ** 60


def name(value):
    return isinstance(value, str) and 1 <= len(value) <= 8 and all("a" <= sign <= "z" for sign in value)


def number(value):
    return integer(value) and 0 <= value <= 10 ** 12


def balanced_trips(dice, length, many, places, longest):
    """So many random trips, named ta, tb, .., as many of which end as start at each place."""
    starts = [dice.choice(places) for _ in range(many)]
    goals = dice.sample(starts, many)
    trips = []
    for at, (start, goal) in enumerate(zip(starts, goals)):
        word = "t" + chr(97 + at // 26) + chr(97 + at % 26)
        leaves, takes = dice.randrange(length), dice.randint(1, longest)
        if start == goal and dice.random() < 0.5:
            trips.append(Stay(word, start, leaves, takes))
        else:
            trips.append(Run(word, start, leaves, takes, goal))
    return trips


def random_plan(dice, table, pauses):
    """Any plan of a table."""
    follows = {}
    for place in table.places:
        ends = [trip.name for trip in table if trip.goal == place]
        starts = [trip.name for trip in table if trip.start == place]
        follows.update(zip(ends, dice.sample(starts, len(starts))))
    return Plan(table, pauses, follows)


class Checks(unittest.TestCase):
    """Checks that compare kinds as well as values."""

    def same(self, got, wanted):
        """Equal values of equal kinds, all through tuples, lists and dicts."""
        self.assertIs(type(got), type(wanted), (got, wanted))
        self.assertEqual(got, wanted)
        if isinstance(wanted, (tuple, list)):
            for one, other in zip(got, wanted):
                self.same(one, other)
        if isinstance(wanted, dict):
            for key in wanted:
                self.same(got[key], wanted[key])

    def raises(self, wanted, call, *args, **more):
        """The call raises an error of just the class of the wanted one, with the same fields."""
        try:
            got = call(*args, **more)
        except errors.TurnError as error:
            self.assertIs(type(error), type(wanted), (error, vars(error), wanted, args, more))
            for field in FIELDS[type(wanted).__name__]:
                mine, other = getattr(error, field), getattr(wanted, field)
                self.assertTrue(mine is other or (type(mine) is type(other) and mine == other), (mine, other))
        else:
            self.fail(f"{type(wanted).__name__} is not raised for {args} {more}, but {got!r} returned")

    def run_examples(self, text, names):
        """Runs the examples of a text as the document writes them, with these names bound at first."""
        rows = text.strip().split("\n")
        while rows:
            source = rows.pop(0).removeprefix(">>> ")
            while rows and rows[0].startswith("... "):
                source += "\n" + rows.pop(0).removeprefix("... ")
            wanted = []
            while rows and not rows[0].startswith(">>> "):
                wanted.append(rows.pop(0))
            self.run_example(source, "\n".join(wanted), names)

    def run_example(self, source, wanted, names):
        with self.subTest(source):
            if wanted.startswith("raises "):
                error = eval(wanted.removeprefix("raises "), dict(vars(errors)))
                self.raises(error, exec, source, names)
            elif wanted:
                self.assertEqual(repr(eval(source, names)), wanted)
            else:
                exec(source, names)
