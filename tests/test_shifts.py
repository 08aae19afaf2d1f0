"""Points [2] and [8], shifts.py: each clock held against the fewest vehicles of the table with these trips moved."""

import random

from onelongturn.curves import Curve
from onelongturn.days import Day
from onelongturn.errors import BadAsk, NoTrip
from onelongturn.fewest import fewest
from onelongturn.shifts import nearest, shifts
from onelongturn.tables import Pauses, Table
from onelongturn.trips import Run, Stay
from tests.support import BILLION_DAY, Checks, Lived, any_but, balanced_trips, small_case

DAY = Day(24)
TABLE = Table(DAY, Run("p", "a", 6, 2, "b"), Run("q", "b", 9, 2, "a"), Run("r", "a", 12, 2, "b"),
              Run("s", "b", 15, 2, "a"))


def told_numbers(table, pauses, names):
    """The fewest vehicles of the table with these trips moved, for each clock."""
    tables = [table.moved(clock, *names) if names else table for clock in range(table.day.length)]
    return [fewest(moved, pauses).number for moved in tables]


def some_names(dice, table):
    return dice.choice(((), table.names, tuple(dice.sample(table.names, dice.randint(1, len(table))))))


def nearest_by_trying(numbers, most):
    for size in range(len(numbers)):
        for shift in (size, -size):
            if numbers[shift % len(numbers)] <= most:
                return shift
    return None


class TestShifts(Checks):
    def test_each_clock_of_short_days(self):
        dice = random.Random(120)
        for _ in range(300):
            table, pauses = small_case(dice, dice.choice((3, 8)), "abc", dice.choice((1, 2, 9, 24)))
            names = some_names(dice, table)
            numbers = told_numbers(table, pauses, names)
            found = shifts(table, pauses, names)
            steps = tuple((at, many) for at, many in enumerate(numbers) if at == 0 or numbers[at - 1] != many)
            self.same([found.steps, type(found), found.day == table.day], [steps, Curve, True])
            for told in (list(names), names + names, list(reversed(names)) + list(names[:1])):
                self.same(shifts(table, pauses, told) == found, True)
            self.same(shifts(table=table, pauses=pauses, names=names) == found, True)

    def test_against_lived_days(self):
        dice = random.Random(121)
        for _ in range(60):
            table, pauses = small_case(dice, 6, "ab", 8)
            names = some_names(dice, table) or table.names[:1]
            clock = dice.randrange(table.day.length)
            self.same(shifts(table, pauses, names)[clock], Lived(table.moved(clock, *names), pauses).bought)

    def test_without_names_and_with_all(self):
        dice = random.Random(122)
        for _ in range(50):
            table, pauses = small_case(dice)
            for names in ([], (), table.names, list(table.names)):
                self.same(shifts(table, pauses, names).steps, ((0, fewest(table, pauses).number),))
        self.same(shifts(Table(DAY), None, []).steps, ((0, 0),))

    def test_forty_trips_on_the_longest_day(self):
        dice = random.Random(123)
        for places in ("a", "ab", "abcdefgh"):
            table = Table(Day(BILLION_DAY), *balanced_trips(dice, BILLION_DAY, 40, places, BILLION_DAY))
            pauses = Pauses.of({place: dice.choice((10 ** 12, dice.randrange(10 ** 12))) for place in places})
            names = table.names[::2]
            found = shifts(table, pauses, names)
            self.same(found[0], fewest(table, pauses).number)
            clocks = [dice.randrange(BILLION_DAY) for _ in range(20)]
            for first, last, _ in dice.sample(list(found), min(20, len(list(found)))):
                clocks += [first, last]
            for clock in clocks:
                self.same(found[clock], fewest(table.moved(clock, *names), pauses).number)
            pairs = list(zip(found.steps, found.steps[1:]))
            self.assertTrue(all(one[0] < other[0] and one[1] != other[1] for one, other in pairs))

    def test_a_list_that_changes_later(self):
        names = ["q"]
        found = shifts(TABLE, None, names)
        names.append("p")
        self.same([found == shifts(TABLE, None, ["q"]), names], [True, ["q", "p"]])


class TestNearest(Checks):
    def test_by_trying(self):
        dice = random.Random(124)
        signs = set()
        for _ in range(300):
            table, pauses = small_case(dice, dice.choice((3, 8)), "abc", dice.choice((1, 2, 9, 24)))
            names = some_names(dice, table)
            numbers = told_numbers(table, pauses, names)
            for most in range(min(numbers) - 2, max(numbers) + 2):
                wanted = nearest_by_trying(numbers, most)
                signs.add(wanted if wanted is None else (wanted > 0) - (wanted < 0))
                self.same(nearest(table, pauses, names, most), wanted)
        self.assertEqual(signs, {None, -1, 0, 1})

    def test_of_two_equal_sizes_the_one_above_0(self):
        trips = [Run("x", "a", 0, 10, "a"), Run("w", "a", 12, 10, "a"), Stay("y", "a", 4, 2)]
        for k, pauses in ((1, None), (2, None), (4 * 10 ** 10, Pauses())):
            table = Table(DAY, *trips).scaled(k)
            numbers = shifts(table, pauses, ["y"])
            self.same([numbers[0], numbers[6 * k], numbers[-6 * k], numbers[6 * k - 1], numbers[1 - 6 * k]], [2, 1, 1, 2, 2])
            self.same([nearest(table, pauses, ["y"], most) for most in (0, 1, 2)], [None, 6 * k, 0])
            self.same(nearest(table.moved(1, "y"), pauses, ["y"], 1), 6 * k - 1)
            self.same(nearest(table.moved(-1, "y"), pauses, ["y"], 1), 1 - 6 * k)

    def test_without_names(self):
        self.same([nearest(TABLE, None, [], most) for most in (-5, 0, 1, 10 ** 69)], [None, None, 0, 0])
        self.same([nearest(TABLE, Pauses(a=2), (), most) for most in (1, 2)], [None, 0])
        self.same(nearest(table=TABLE, pauses=None, names=["q"], number=1), 0)

    def test_the_longest_day(self):
        far = BILLION_DAY // 4
        table = Table(Day(BILLION_DAY), Run("x", "a", 0, far, "a"), Run("y", "a", far - 9, far, "a"))
        self.same([nearest(table, None, ["y"], 1), nearest(table, None, ["x"], 1)], [9, -9])
        self.same([nearest(table, None, ["y"], 2), nearest(table, None, ["y"], 0)], [0, None])


class TestErrors(Checks):
    def test_in_their_order(self):
        for call in (shifts, lambda table, pauses, names: nearest(table, pauses, names, 1)):
            for value in any_but(lambda value: isinstance(value, Table)):
                self.raises(BadAsk("table"), call, value, value, value)
            for value in any_but(lambda value: value is None or isinstance(value, Pauses)):
                self.raises(BadAsk("pauses"), call, TABLE, value, value)
            for value in any_but(lambda value: isinstance(value, (list, tuple))) + ["pq", {"p": 1}]:
                self.raises(BadAsk("names"), call, TABLE, None, value)
            for value in any_but(lambda value: value in ("p", "q", "r", "s")) + ["a", "t"]:
                self.raises(NoTrip(value), call, TABLE, None, [value, None])
                self.raises(NoTrip(value), call, TABLE, None, ("p", "p", value, "t"))
        self.raises(BadAsk("names"), nearest, number=1, names=None, pauses=None, table=TABLE)
        self.raises(NoTrip("t"), shifts, names=["t"], pauses=None, table=TABLE)
