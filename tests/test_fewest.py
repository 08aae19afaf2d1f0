"""Points [2], [8] and [9], fewest.py: held against days that are lived minute by minute, and against all plans."""

import random
from itertools import product

from onelongturn.curves import stands
from onelongturn.days import Day
from onelongturn.errors import BadAsk, NoPlace
from onelongturn.fewest import Fewest, days_by, fewest, room, stock, under
from onelongturn.plans import Plan
from onelongturn.rules import FirstIn, plan_by
from onelongturn.tables import Pauses, Table
from onelongturn.trips import Run, Stay
from tests.support import BILLION_DAY, Checks, Lived, any_but, balanced_trips, every_plan, integer, small_case

DAY = Day(24)
TABLE = Table(DAY, Run("p", "a", 6, 2, "b"), Run("q", "b", 9, 2, "a"), Run("r", "a", 12, 2, "b"),
              Run("s", "b", 15, 2, "a"))
CUTS = {"a": 7, "b": 0}


def told_stock(table, pauses, place):
    """The stock by the words of point [8]."""
    length = table.day.length
    pause = 0 if pauses is None else pauses[place]
    leaves = [trip.leaves for trip in table if trip.start == place]
    comes = [(trip.leaves + trip.takes) % length for trip in table if trip.goal == place and isinstance(trip, Run)]
    stays = [(trip.leaves + trip.takes) % length for trip in table if trip.goal == place and isinstance(trip, Stay)]

    def come_in(y):
        if y >= 0:
            return sum(moment % length == clock for clock in comes for moment in range(y + 1))
        return -sum(moment % length == clock for clock in comes for moment in range(y + 1, 0))

    return max(sum(other <= x for other in leaves) - come_in(x - pause) - sum(end <= x for end in stays)
               for x in leaves)


def large_case(seed, length, many, places, longest):
    dice = random.Random(seed)
    table = Table(Day(length), *balanced_trips(dice, length, many, places, longest))
    return dice, table, Pauses.of({place: dice.choice((0, dice.randint(0, 10 ** 12), 10 ** 12)) for place in places})


class TestLivedDays(Checks):
    def test_number_cuts_stock_under_and_room(self):
        dice = random.Random(60)
        for _ in range(500):
            table, pauses = small_case(dice)
            lived = Lived(table, pauses)
            found = fewest(table, pauses)
            self.same([found.number, type(found)], [lived.bought, Fewest])
            self.same(found.cuts, {place: lived.begin(place) for place in table.places})
            self.same(under(table), lived.under)
            self.same(found.number, under(table) + sum(stock(table, pauses, place) for place in table.places))
            for place in table.places:
                self.same(stock(table, pauses, place), lived.stock(place))
                self.same(stock(table, pauses, place), told_stock(table, pauses, place))
                self.same(room(table, pauses, place), max(lived.standing[place]))

    def test_many_trips_on_a_short_day(self):
        dice = random.Random(61)
        for _ in range(20):
            table = Table(Day(30), *balanced_trips(dice, 30, 40, "abcdefgh"[:dice.randint(1, 8)], 90))
            pauses = Pauses.of({place: dice.randint(0, 90) for place in table.places})
            lived = Lived(table, pauses)
            self.same([fewest(table, pauses).number, under(table)], [lived.bought, lived.under])
            self.same(fewest(table, pauses).cuts, {place: lived.begin(place) for place in table.places})

    def test_whoever_is_ready_in_a_minute_can_leave_in_it(self):
        table = Table(DAY, Run("x", "a", 6, 24, "a"))
        self.same([fewest(table).number, room(table, None, "a")], [1, 0])
        self.same([fewest(table, Pauses(a=1)).number, room(table, Pauses(a=1), "a")], [2, 1])
        self.same([stock(table, None, "a"), stock(table, Pauses(a=1), "a")], [0, 1])
        self.same([fewest(table, Pauses(a=24)).number, fewest(table, Pauses(a=25)).number], [2, 3])

    def test_stays_do_not_pause(self):
        table = Table(DAY, Stay("w", "a", 6, 24))
        self.same(fewest(table, Pauses(a=10 ** 12)) == Fewest(1, {"a": 0}), True)
        self.same([stock(table, Pauses(a=99), "a"), under(table)], [0, 1])

    def test_no_pauses(self):
        for pauses in (None, Pauses(), Pauses(c=99)):
            self.same(fewest(TABLE, pauses) == Fewest(1, CUTS), True)
            self.same(fewest(table=TABLE, pauses=pauses).cuts, CUTS)
        self.same(fewest(TABLE) == fewest(TABLE, None), True)

    def test_a_table_without_trips(self):
        found = fewest(Table(DAY), Pauses(a=2))
        self.same([found.number, found.cuts, under(Table(DAY)), days_by(Table(DAY), None, {})], [0, {}, 0, 0])
        self.raises(NoPlace("a"), stock, Table(DAY), None, "a")
        self.raises(BadAsk("cuts"), days_by, Table(DAY), None, {"a": 0})


class TestAllPlans(Checks):
    def test_fewest_and_days_by_any_cuts(self):
        dice = random.Random(62)
        for _ in range(60):
            table, pauses = small_case(dice, 5, "ab", 5)
            least = min(plan.vehicles for plan in every_plan(table, pauses))
            found = fewest(table, pauses)
            self.same([found.number, days_by(table, pauses, found.cuts)], [least, least])
            told = []
            for clocks in product(range(table.day.length), repeat=len(table.places)):
                cuts = dict(zip(table.places, clocks))
                empty = all(stands(table, pauses, place)[cuts[place] - 1] == 0 for place in cuts)
                days = days_by(table, pauses, cuts)
                told.append(days)
                self.assertTrue(days == least if empty else days <= least)
            self.assertEqual(max(told), least)

    def test_days_one_by_one(self):
        dice = random.Random(63)
        for _ in range(100):
            table, pauses = small_case(dice)
            length = table.day.length
            cuts = {place: dice.randrange(length) for place in table.places}
            days = 0
            for trip in table:
                ready = trip.ready(pauses[trip.goal] if pauses is not None else 0)
                leaving = next(k for k in range(-3, 9) if k * length <= trip.leaves - cuts[trip.start] < (k + 1) * length)
                coming = next(k for k in range(-3, 99) if k * length <= ready - cuts[trip.goal] < (k + 1) * length)
                days += coming - leaving
            self.same(days_by(table=table, pauses=pauses, cuts=cuts), days)


class TestBounds(Checks):
    def test_forty_trips_on_the_longest_day(self):
        for seed in range(20):
            dice, table, pauses = large_case(seed, BILLION_DAY, 40, "abcdefgh", 10 ** 12)
            found = fewest(table, pauses)
            self.same(found.number, under(table) + sum(stock(table, pauses, place) for place in table.places))
            self.same([days_by(table, pauses, found.cuts), plan_by(table, pauses, FirstIn()).vehicles], [found.number] * 2)
            for place, cut in found.cuts.items():
                curve = stands(table, pauses, place)
                free = [(first + 1) % BILLION_DAY for first, _, height in curve if height == 0]
                ahead = [0] if curve[BILLION_DAY - 1] == 0 else []
                self.same(cut, min(free + ahead))
                self.same(room(table, pauses, place), max(height for _, _, height in curve))
            cuts = {place: dice.randrange(BILLION_DAY) for place in table.places}
            self.assertLessEqual(days_by(table, pauses, cuts), found.number)

    def test_days_that_are_scaled(self):
        dice = random.Random(64)
        for _ in range(30):
            table, pauses = small_case(dice, 12)
            pauses = Pauses() if pauses is None else pauses
            k = 10 ** 11
            far = Pauses.of({place: pauses[place] * k for place in table.places if pauses[place] * k <= 10 ** 12})
            near = Pauses.of({place: far[place] // k for place in far})
            if any(trip.takes > 9 for trip in table):
                continue
            self.same(fewest(table.scaled(k), far).number, fewest(table, near).number)
            for place in table.places:
                self.same(stock(table.scaled(k), far, place), stock(table, near, place))
                self.same(room(table.scaled(k), far, place), room(table, near, place))

    def test_a_day_of_one_minute(self):
        table = Table(Day(1), *[Run("t" + sign, "a", 0, 10 ** 12, "a") for sign in "abcdefgh"])
        self.same(fewest(table, Pauses(a=10 ** 12)) == Fewest(16 * 10 ** 12, {"a": 0}), True)
        self.same([under(table), stock(table, Pauses(a=10 ** 12), "a"), room(table, None, "a")], [8 * 10 ** 12] * 2 + [0])


class TestErrors(Checks):
    def test_table(self):
        for value in any_but(lambda value: isinstance(value, Table)):
            self.raises(BadAsk("table"), fewest, value, value)
            self.raises(BadAsk("table"), under, value)
            self.raises(BadAsk("table"), under, table=value)
            for call in (stock, room, days_by):
                self.raises(BadAsk("table"), call, value, value, value)
            self.raises(BadAsk("table"), fewest, pauses=value, table=value)
            self.raises(BadAsk("table"), stock, place=value, pauses=value, table=value)
            self.raises(BadAsk("table"), room, place=value, pauses=value, table=value)
            self.raises(BadAsk("table"), days_by, cuts=value, pauses=value, table=value)

    def test_pauses(self):
        for value in any_but(lambda value: value is None or isinstance(value, Pauses)):
            self.raises(BadAsk("pauses"), fewest, TABLE, value)
            for call in (stock, room, days_by):
                self.raises(BadAsk("pauses"), call, TABLE, value, value)

    def test_place(self):
        for value in any_but(lambda value: value == "a") + ["c", "p", TABLE]:
            self.raises(NoPlace(value), stock, TABLE, None, value)
            self.raises(NoPlace(value), room, TABLE, Pauses(c=1), place=value)

    def test_cuts(self):
        clock = any_but(lambda value: integer(value) and 0 <= value < 24) + [24, -1, DAY]
        wrong = any_but(lambda value: False) + [[("a", 0), ("b", 0)], ("a", "b"), {"a": 0}, {"a": 0, "b": 0, "c": 0},
                                                {"a": 0, "c": 0}, {"a": 0, "b": 0, None: 0}, {"a": 0, 1: 0}]
        wrong += [{"a": value, "b": 0} for value in clock] + [{"a": 0, "b": value} for value in clock]
        for value in wrong:
            self.raises(BadAsk("cuts"), days_by, TABLE, None, value)
        self.same(days_by(TABLE, None, {"b": 23, "a": 23}), 0)


class TestPaper(Checks):
    def test_made_of_any_values(self):
        self.check_paper(Fewest, "number", "cuts")

    def test_a_told_dict_may_be_changed(self):
        found = fewest(TABLE)
        found.cuts["a"] = 3
        found.cuts.clear()
        self.same(fewest(TABLE).cuts, CUTS)
        cuts = dict(CUTS)
        days = days_by(TABLE, None, cuts)
        cuts["a"] = 0
        self.same([days, cuts, Plan(TABLE, None, {"p": "q", "q": "r", "r": "s", "s": "p"}).vehicles], [1, {"a": 0, "b": 0}, 1])
        told = {}
        paper = Fewest(1, told)
        told["a"] = 1
        self.assertIs(paper.cuts, told)
