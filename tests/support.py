"""What the tests share: checks of values with their kinds, of errors with their fields, and of examples."""

import random
import unittest
from itertools import permutations, product

from onelongturn import errors
from onelongturn.board import Board
from onelongturn.clocks import Clocks
from onelongturn.curves import Curve
from onelongturn.days import Day
from onelongturn.desk import Desk
from onelongturn.fewest import Fewest
from onelongturn.joined import Saved
from onelongturn.plans import Plan
from onelongturn.rounds import Rounds
from onelongturn.rules import FirstIn, LastIn, Named
from onelongturn.stairs import Above, Endless, Stair
from onelongturn.stays import MostStays
from onelongturn.swaps import Merged
from onelongturn.tables import Pauses, Table
from onelongturn.trips import Run, Stay
from onelongturn.turns import Apart, OneTurn
from onelongturn.yard import Yard

FIELDS = {
    "BadDay": ("value",), "BadName": ("value",), "BadNumber": ("value",), "BadClocks": ("at",),
    "BadTrip": ("part",), "BadTable": ("at",), "BadPauses": ("place",), "BadPlan": ("name",),
    "BadAsk": ("part",), "BadText": ("line", "word"), "BadLine": ("word",),
    "NoTrip": ("name",), "NoPlace": ("place",), "Twice": ("name",), "OutOfDay": ("name",),
    "Unbalanced": ("place",), "Unlike": ("part",), "Spare": ("place",), "TooMany": ("what", "most"),
    "Lacking": ("name",),
}
BILLION_DAY = 10 ** 12
PACKAGE_OBJECTS = [
    Day(3), Clocks(Day(3)), Clocks(Day(24), (3, 5)), Run("p", "a", 6, 2, "b"), Stay("w", "a", 6, 2),
    errors.BadDay(3), errors.TurnError(), Table(Day(3)), Table(Day(24), Stay("w", "a", 6, 2)), Pauses(), Pauses(a=2),
    Curve(Day(24), [(0, 1)]), Plan(Table(Day(3)), None, {}), Fewest(1, {}), FirstIn(), LastIn(), Named("a"),
    Merged((), None), Stair(24, 1, (2, 20), 2), Above(0, Pauses()), Endless("a"), Saved(0, {}), OneTurn(1, (), None),
    Apart(()), Rounds(3, 0, (3,)), MostStays(1, (17,), 1, (6, 16)), Board(Table(Day(3))),
    Board(Table(Day(24), Stay("w", "a", 6, 2))), Yard(Table(Day(3)), None, FirstIn(), {}), Desk(),
]
PLAIN_VALUES = [
    None, True, False, 0, 1, -1, 7, 10 ** 12 + 1, 10 ** 69, -(10 ** 69), "", "a", "abcdefgh", "abcdefghi", "A",
    "24", "a b", "x\ny", "z" * 3000, (), (1,), (1, 2), ("a", 1), [], [1], [(1, 2)], {}, {"a": 1}, {1: 2},
    ((), [[[[{}]]]]),
]
ANY_VALUES = PLAIN_VALUES + PACKAGE_OBJECTS


def any_but(fits):
    """All sorts of values, but for those that fit."""
    return [value for value in ANY_VALUES if not fits(value)]


def integer(value):
    return type(value) is int


def moment(value):
    return integer(value) and abs(value) < 10 ** 60


def name(value):
    return isinstance(value, str) and 1 <= len(value) <= 8 and all("a" <= sign <= "z" for sign in value)


def number(value):
    return integer(value) and 0 <= value <= 10 ** 12


def balanced_trips(dice, length, many, places, longest, sign="t"):
    """So many random trips, named taa, tab, .., as many of which end as start at each place."""
    starts = [dice.choice(places) for _ in range(many)]
    goals = dice.sample(starts, many)
    trips = []
    for at, (start, goal) in enumerate(zip(starts, goals)):
        word = sign + chr(97 + at // 26) + chr(97 + at % 26)
        leaves, takes = dice.randrange(length), dice.randint(1, longest)
        if start == goal and dice.random() < 0.5:
            trips.append(Stay(word, start, leaves, takes))
        else:
            trips.append(Run(word, start, leaves, takes, goal))
    return trips


def random_plan(dice, table, pauses):
    """Any plan of a table."""
    follows = {}
    for place in table.places:
        ends = [trip.name for trip in table if trip.goal == place]
        starts = [trip.name for trip in table if trip.start == place]
        follows.update(zip(ends, dice.sample(starts, len(starts))))
    return Plan(table, pauses, follows)


def small_case(dice, most=6, places="abc", longest=9):
    """A table of at most so many trips on a short day, with pauses that can be of several days, or with none."""
    length = dice.randint(1, longest)
    chosen = places[:dice.randint(1, len(places))]
    table = Table(Day(length), *balanced_trips(dice, length, dice.randint(1, most), chosen, 3 * length))
    if dice.random() < 0.2:
        return table, None
    return table, Pauses.of({place: dice.randint(0, 3 * length) for place in places + "z" if dice.random() < 0.6})


def every_plan(table, pauses):
    """All plans of a small table, of any number of vehicles."""
    ends = [[trip.name for trip in table if trip.goal == place] for place in table.places]
    starts = [[trip.name for trip in table if trip.start == place] for place in table.places]
    plans = []
    for orders in product(*[list(permutations(names)) for names in starts]):
        follows = {}
        for names, order in zip(ends, orders):
            follows.update(zip(names, order))
        plans.append(Plan(table, pauses, follows))
    return plans


def plans_and_spares(seed):
    """Drawn plans of small tables, each with the places at which it has a spare vehicle; all sorts of them."""
    dice, told = random.Random(seed), set()
    for _ in range(300):
        plan = random_plan(dice, *small_case(dice, 8))
        spare = tuple(place for place in plan.table.places if plan.spare(place))
        told.add(spare)
        yield plan, spare
    assert {(), ("a",), ("b",), ("a", "b"), ("b", "c")} <= told


def ready_behind(trip, pauses):
    """When a trip is ready that leaves at its clock on day 0, told by point [5] alone."""
    paused = pauses[trip.goal] if pauses is not None and isinstance(trip, Run) else 0
    return trip.leaves + trip.takes + paused


class Lived:
    """Days that are lived minute by minute, from none on: whoever lacks a vehicle buys one.

    Behind some days nobody buys any more. Then `bought` are all vehicles; `standing` tells for each place how many
    stand in each minute of a day, `pausing` and `under` how many pause at each place and are under way ahead of it.
    """

    def __init__(self, table, pauses):
        length = table.day.length
        longest = max((ready_behind(trip, pauses) - trip.leaves for trip in table), default=0)
        self.bought = 0
        stands = {place: 0 for place in table.places}
        coming, ways = {}, []
        days = 3 + 2 * (longest // length + 2)
        for moment in range(days * length):
            if moment % length == 0:
                self.standing = {place: [] for place in table.places}
            for place in coming.pop(moment, []):
                stands[place] += 1
            for trip in table:
                if trip.leaves == moment % length:
                    if stands[trip.start] == 0:
                        assert moment < (days - 2) * length
                        self.bought += 1
                        stands[trip.start] += 1
                    stands[trip.start] -= 1
                    ready = ready_behind(trip, pauses) - trip.leaves + moment
                    coming.setdefault(ready, []).append(trip.goal)
                    ways.append((trip.goal, moment + trip.takes, ready))
            for place in table.places:
                self.standing[place].append(stands[place])
        end = days * length
        self.under = sum(comes > end - 1 for _, comes, _ in ways)
        self.pausing = {place: sum(goal == place and comes <= end - 1 < ready for goal, comes, ready in ways)
                        for place in table.places}

    def stock(self, place):
        return self.standing[place][-1] + self.pausing[place]

    def begin(self, place):
        """The least clock such that nobody stands in the minute ahead of it."""
        return next(clock for clock in range(len(self.standing[place])) if self.standing[place][clock - 1] == 0)


def lived_choices(table, pauses, pick):
    """The choices of point [13], with queues that are kept minute by minute: (trip, the one it takes, choice, many)."""
    lived, length, rows = Lived(table, pauses), table.day.length, []
    for place in table.places:
        queue = []
        for minute in range(length):
            clock = (lived.begin(place) + minute) % length
            for trip in table:
                if trip.goal == place and ready_behind(trip, pauses) % length == clock:
                    queue.append(trip.name)
            for trip in table:
                if trip.start == place and trip.leaves == clock:
                    many, choice = len(queue), pick(tuple(queue), trip.name)
                    rows.append((trip.name, queue.pop(choice), choice, many))
            assert len(queue) == lived.standing[place][clock]
    return rows


def lived_stretches(table, pauses, place):
    """The stretches of point [10], told minute by minute from the begin of the place on."""
    lived, length = Lived(table, pauses), table.day.length
    clocks = {trip.leaves for trip in table if trip.start == place}
    clocks |= {ready_behind(trip, pauses) % length for trip in table if trip.goal == place}
    found, hanging = [], False
    for minute in range(length):
        clock = (lived.begin(place) + minute) % length
        if clock in clocks:
            found = found[:-1] + [found[-1] + (clock,)] if hanging else found + [(clock,)]
            hanging = True
        hanging = hanging and lived.standing[place][clock] > 0
    return tuple(found)


def lived_lots(table, pauses, taken=()):
    """The lots of point [10], from stretches that are told minute by minute."""
    links = []
    for place in table.places:
        stretches = lived_stretches(table, pauses, place)
        for clocks in [sum(stretches, ())] if place in taken else stretches:
            links.append({trip.name for trip in table if (trip.start == place and trip.leaves in clocks) or (
                trip.goal == place and ready_behind(trip, pauses) % table.day.length in clocks)})
    lots = []
    for name in table.names:
        if not any(name in lot for lot in lots):
            lot, many = {name}, 0
            while many < len(lot):
                many = len(lot)
                lot = lot.union(*[link for link in links if link & lot])
            lots.append(tuple(sorted(lot)))
    return tuple(sorted(lots))


class Checks(unittest.TestCase):
    """Checks that compare kinds as well as values."""

    def same(self, got, wanted):
        """Equal values of equal kinds, all through tuples, lists and dicts."""
        self.assertIs(type(got), type(wanted), (got, wanted))
        self.assertEqual(got, wanted)
        if isinstance(wanted, (tuple, list)):
            for one, other in zip(got, wanted):
                self.same(one, other)
        if isinstance(wanted, dict):
            for key in wanted:
                self.same(got[key], wanted[key])

    def raises(self, wanted, call, *args, **more):
        """The call raises an error of just the class of the wanted one, with the same fields."""
        try:
            got = call(*args, **more)
        except errors.TurnError as error:
            self.assertIs(type(error), type(wanted), (error, vars(error), wanted, args, more))
            for field in FIELDS[type(wanted).__name__]:
                mine, other = getattr(error, field), getattr(wanted, field)
                self.assertTrue(mine is other or (type(mine) is type(other) and mine == other), (mine, other))
        else:
            self.fail(f"{type(wanted).__name__} is not raised for {args} {more}, but {got!r} returned")

    def check_paper(self, paper, *fields):
        """A paper keeps the very values that it is made of, and is equal to one of the same class and values."""
        some = [value for value in ANY_VALUES if value not in (0, 1)] + [0, 1]
        for at, value in enumerate(some):
            told = [some[(at + 7 * step) % len(some)] for step in range(len(fields))]
            one, other = paper(*told), paper(**dict(zip(fields, told)))
            for field, worth in zip(fields, told):
                self.assertIs(getattr(one, field), worth)
                self.assertIs(getattr(other, field), worth)
            self.same([one == other, one != other], [True, False])
            for step, field in enumerate(fields):
                changed = paper(**{**dict(zip(fields, told)), field: ("another", told[step])})
                self.same([one == changed, one != changed], [False, True])
            for stranger in any_but(lambda value: isinstance(value, paper)) + [tuple(told), told[0]]:
                self.same([one == stranger, stranger == one], [False, False])

    def run_examples(self, text, names):
        """Runs the examples of a text as the document writes them, with these names bound at first."""
        rows = text.strip().split("\n")
        while rows:
            source = rows.pop(0).removeprefix(">>> ")
            while rows and rows[0].startswith("... "):
                source += "\n" + rows.pop(0).removeprefix("... ")
            wanted = []
            while rows and not rows[0].startswith(">>> "):
                wanted.append(rows.pop(0))
            self.run_example(source, "\n".join(wanted), names)

    def run_example(self, source, wanted, names):
        with self.subTest(source):
            if wanted.startswith("raises "):
                error = eval(wanted.removeprefix("raises "), dict(vars(errors)))
                self.raises(error, exec, source, names)
            elif wanted:
                self.assertEqual(repr(eval(source, names)), wanted)
            else:
                exec(source, names)
