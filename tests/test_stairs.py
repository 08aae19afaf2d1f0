"""Points [2], [14] and [15], stairs.py: held against the stock at each pause, and against days with late runs."""

import random
from itertools import product

from onelongturn.days import Day
from onelongturn.errors import BadAsk, BadNumber, NoPlace, Unlike
from onelongturn.fewest import fewest, stock
from onelongturn.stairs import Above, Endless, Stair, above, alike, lateness, stair
from onelongturn.tables import Pauses, Table
from onelongturn.trips import Run, Stay
from tests.support import BILLION_DAY, Checks, any_but, balanced_trips, integer, number, ready_behind, small_case

DAY = Day(24)
TABLE = Table(DAY, Run("p", "a", 6, 2, "b"), Run("q", "b", 9, 2, "a"), Run("r", "a", 12, 2, "b"),
              Run("s", "b", 15, 2, "a"))
LOOPS = Table(DAY, Run("u", "a", 6, 24, "a"), Run("v", "a", 18, 24, "a"))
FAR = 10 ** 69


def drawn_stair(dice, length, most=4):
    step = dice.randint(0, most)
    return Stair(length, dice.randint(-5, 5), tuple(sorted(dice.randint(1, length) for _ in range(step))), step)


def value_of(one, m):
    """The value of a stair, counted rise by rise from the pause 0 on."""
    return one.base + sum((x - 1) % one.length + 1 == rise for x in range(1, m + 1) for rise in one.rises)


def table_of(dice, length, places, most=5, sign="t"):
    chosen = dice.sample(places, dice.randint(1, len(places)))
    return Table(Day(length), *balanced_trips(dice, length, dice.randint(1, most), chosen, 2 * length, sign))


def bears(table, pauses, stocks, late):
    """Whether nobody lacks a vehicle for three days if each run comes in late by as much as `late` tells, each time."""
    length = table.day.length
    many = dict(stocks)
    ready = {}
    for day in range(-12 - max(late(trip) for trip in table) // length, 3):
        for trip in table:
            comes = trip.leaves + day * length + trip.takes
            moment = ready_behind(trip, pauses) + day * length + (late(trip) if isinstance(trip, Run) else 0)
            if moment >= 0:
                ready.setdefault(moment, []).append(trip.goal)
                many[trip.goal] -= comes < 0
    for moment in range(3 * length):
        for place in ready.get(moment, []):
            many[place] += 1
        for trip in table:
            if trip.leaves == moment % length:
                many[trip.start] -= 1
        if min(many.values()) < 0:
            return False
    return True


class TestStair(Checks):
    def test_against_the_stock_at_each_pause(self):
        dice = random.Random(110)
        for _ in range(200):
            table, _ = small_case(dice, dice.choice((3, 8)))
            length = table.day.length
            for place in table.places:
                found = stair(table, place)
                told = [stock(table, Pauses.of({place: m}), place) for m in range(3 * length + 2)]
                self.same([found(m) for m in range(3 * length + 2)], told)
                rises = [m for m in range(1, length + 1) for _ in range(told[m] - told[m - 1])]
                self.same([found.length, found.base, found.rises, found.step],
                          [length, told[0], tuple(rises), len(rises)])
                runs = [trip for trip in table if trip.goal == place and isinstance(trip, Run)]
                self.same([found.step, type(found)], [len(runs), Stair])
                self.same(stair(table=table, place=place) == found, True)

    def test_the_longest_day(self):
        dice = random.Random(111)
        for places in ("a", "ab", "abcdefgh"):
            table = Table(Day(BILLION_DAY), *balanced_trips(dice, BILLION_DAY, 40, places, BILLION_DAY))
            for place in table.places:
                found = stair(table, place)
                for m in (0, 10 ** 12 - 1, 10 ** 12, dice.randrange(10 ** 12), *found.rises[:9]):
                    for near in (m, max(0, m - 1)):
                        self.same(found(near), stock(table, Pauses.of({place: near}), place))
                self.same(found(10 ** 80 * BILLION_DAY), found.base + 10 ** 80 * found.step)
                self.same(found(BILLION_DAY * 7 + 5), found(5) + 7 * found.step)

    def test_stays_alone(self):
        table = Table(DAY, Stay("w", "a", 6, 31), Stay("x", "a", 12, 18))
        self.same(stair(table, "a") == Stair(24, 1, (), 0), True)
        self.same([stair(table, "a")(FAR), stair(table, "a").longest_pause(0), stair(table, "a").longest_pause(1)],
                  [1, -1, None])

    def test_a_day_of_one_minute(self):
        table = Table(Day(1), Run("x", "a", 0, 3, "a"), Run("y", "a", 0, 1, "a"), Stay("w", "a", 0, 2))
        self.same(stair(table, "a") == Stair(1, 0, (1, 1), 2), True)
        self.same([stair(table, "a")(m) for m in range(4)], [0, 2, 4, 6])

    def test_errors(self):
        for value in any_but(lambda value: isinstance(value, Table)):
            self.raises(BadAsk("table"), stair, value, value)
        for value in any_but(lambda value: value == "a") + ["c", "p"]:
            self.raises(NoPlace(value), stair, TABLE, value)


class TestStairOfParts(Checks):
    def test_attributes(self):
        one = Stair(rises=(2, 2, 20), base=-3, step=3, length=24)
        self.same([one.length, one.base, one.rises, one.step], [24, -3, (2, 2, 20), 3])
        self.same([one(0), one(1), one(2), one(19), one(20), one(24), one(26)], [-3, -3, -1, -1, 0, 0, 2])

    def test_values(self):
        dice = random.Random(112)
        for _ in range(200):
            one = drawn_stair(dice, dice.randint(1, 7))
            for m in range(25):
                self.same(one(m), value_of(one, m))
            self.same(one(FAR * one.length + 3), value_of(one, 3) + FAR * one.step)
        for value in any_but(lambda value: integer(value) and value >= 0) + [-1, -FAR, "3", (3,)]:
            self.raises(BadNumber(value), Stair(24, 1, (2, 20), 2), value)

    def test_longest_pause(self):
        dice = random.Random(113)
        for _ in range(200):
            one = drawn_stair(dice, dice.randint(1, 7))
            for number in range(-8, 15):
                fits = [m for m in range(200) if one(m) <= number]
                told = one.longest_pause(number)
                self.same(told, None if len(fits) == 200 else max(fits, default=-1))
            for number in (FAR, FAR + 1, FAR + 2):
                m = one.longest_pause(number=number)
                if one.step:
                    self.assertTrue(one(m) <= number < one(m + 1))
                else:
                    self.same(m, None)
                self.same(one.longest_pause(-number), -1)

    def test_equal(self):
        one = Stair(24, 1, (2, 20), 2)
        self.same([one == Stair(24, 1, (2, 20), 2), one != Stair(24, 1, (2, 20), 2)], [True, False])
        others = [Stair(23, 1, (2, 20), 2), Stair(24, 2, (2, 20), 2), Stair(24, 1, (2, 19), 2), Stair(24, 1, (2, 20), 3),
                  Stair(24, 1, (20, 2), 2), Stair(24, 1, (2,), 1)]
        for value in any_but(lambda value: isinstance(value, Stair)) + others:
            self.same([one == value, one != value], [False, True])

    def test_two_stairs_over_all_pauses(self):
        dice = random.Random(114)
        told = set()
        for _ in range(600):
            length = dice.randint(1, 6)
            one, other = drawn_stair(dice, length, 3), drawn_stair(dice, length, 3)
            gaps = [one(m) - other(m) for m in range(5 * length)]
            wanted = None if one.step > other.step else max(gaps)
            self.same(one - other, wanted)
            self.same(one <= other, wanted is not None and wanted <= 0)
            self.same(other >= one, one <= other)
            told.add((one.step > other.step) - (one.step < other.step))
            if one.step > other.step:
                self.assertGreater(one(99 * length) - other(99 * length), max(gaps))
        self.assertEqual(told, {-1, 0, 1})

    def test_far_stairs(self):
        one, other = Stair(BILLION_DAY, -FAR, (1, BILLION_DAY), 2), Stair(BILLION_DAY, FAR, (BILLION_DAY, BILLION_DAY), 2)
        self.same([one - other, other - one, one <= other, other <= one], [1 - 2 * FAR, 2 * FAR, True, False])
        self.same([one - one, one <= one], [0, True])

    def test_errors_of_two_stairs(self):
        one = Stair(24, 1, (2, 20), 2)
        for value in any_but(lambda value: isinstance(value, Stair)):
            self.raises(BadAsk("stair"), lambda: one - value)
            self.raises(BadAsk("stair"), lambda: one <= value)
        for call in (lambda: one - Stair(23, 1, (2, 20), 2), lambda: one <= Stair(25, 1, (2, 20), 2)):
            self.raises(Unlike("length"), call)
        self.raises(Unlike("length"), lambda: one - Stair(25, 1, (), 0))


class TestAbove(Checks):
    def test_against_all_pauses(self):
        dice = random.Random(115)
        kinds = set()
        for _ in range(200):
            length = dice.randint(1, 5)
            one, other = table_of(dice, length, "abc"), table_of(dice, length, "abc", sign=dice.choice("tu"))
            places = sorted(set(one.places + other.places))
            runs = {place: [sum(trip.goal == place and isinstance(trip, Run) for trip in table) for table in (one, other)]
                    for place in places}
            endless = [place for place in places if runs[place][0] > runs[place][1]]
            found = above(one, other)
            kinds.add(type(found))
            if endless:
                self.same(found == Endless(endless[0]), True)
                continue
            gaps = []
            for numbers in product(range(length), repeat=len(places)):
                pauses = Pauses.of(dict(zip(places, numbers)))
                gaps.append(fewest(one, pauses).number - fewest(other, pauses).number)
            self.same([type(found), found.number, type(found.pauses)], [Above, max(gaps), Pauses])
            self.same(fewest(one, found.pauses).number - fewest(other, found.pauses).number, found.number)
            self.assertTrue(all(place in places and found.pauses[place] < length for place in found.pauses))
            for numbers in product((length, 2 * length - 1, 3 * length), repeat=len(places)):
                pauses = Pauses.of(dict(zip(places, numbers)))
                self.assertLessEqual(fewest(one, pauses).number - fewest(other, pauses).number, found.number)
        self.assertEqual(kinds, {Above, Endless})

    def test_place_by_place(self):
        dice = random.Random(116)
        for _ in range(100):
            length = dice.randint(1, 9)
            one = table_of(dice, length, "ab", 8)
            other = one.moved(dice.randrange(length), *dice.sample(one.names, dice.randint(0, len(one))))
            found = above(one=one, other=other)
            for place in one.places:
                gaps = [stock(one, Pauses.of({place: m}), place) - stock(other, Pauses.of({place: m}), place)
                        for m in range(2 * length)]
                self.same(gaps[found.pauses[place]], max(gaps))

    def test_trips_under_way_count(self):
        one, other = Table(DAY, Run("x", "a", 6, 72, "a")), Table(DAY, Run("x", "a", 6, 24, "a"))
        self.same([above(one, other).number, above(other, one).number, alike(one, other)], [2, -2, False])

    def test_endless_and_places_that_one_lacks(self):
        one = Table(DAY, Run("x", "c", 6, 24, "c"), Run("y", "b", 6, 24, "b"))
        two = Table(DAY, Run("y", "b", 6, 24, "b"), Run("z", "d", 6, 24, "d"))
        self.same([above(one, two) == Endless("c"), above(two, one) == Endless("d")], [True, True])
        self.same([above(one, Table(DAY)) == Endless("b"), above(Table(DAY), one).number], [True, -2])
        stays = Table(DAY, Stay("w", "e", 6, 3), Stay("v", "e", 7, 3))
        self.same([above(stays, Table(DAY)).number, above(Table(DAY), stays).number], [2, -2])
        self.same(above(Table(DAY), Table(DAY)) == Above(0, Pauses()), True)

    def test_the_longest_day(self):
        dice = random.Random(117)
        one = Table(Day(BILLION_DAY), *balanced_trips(dice, BILLION_DAY, 40, "abcdefgh", BILLION_DAY))
        other = one.moved(dice.randrange(BILLION_DAY), *one.names[::2])
        found = above(one, other)
        self.same(fewest(one, found.pauses).number - fewest(other, found.pauses).number, found.number)
        for _ in range(50):
            pauses = Pauses.of({place: dice.randrange(BILLION_DAY) for place in one.places})
            self.assertLessEqual(fewest(one, pauses).number - fewest(other, pauses).number, found.number)
        self.same([alike(one, other), alike(one, one.moved(10 ** 11))], [False, True])

    def test_alike(self):
        dice = random.Random(118)
        told = set()
        for _ in range(300):
            length = dice.randint(1, 4)
            one = table_of(dice, length, "ab", 3)
            other = dice.choice((table_of(dice, length, "ab", 3), one.moved(dice.randrange(length), one.names[0])))
            places = sorted(set(one.places + other.places))
            wanted = True
            for numbers in product(range(2 * length), repeat=len(places)):
                pauses = Pauses.of(dict(zip(places, numbers)))
                wanted = wanted and fewest(one, pauses).number == fewest(other, pauses).number
            told.add(wanted)
            self.same([alike(one, other), alike(other=one, one=other)], [wanted, wanted])
        self.assertEqual(told, {True, False})

    def test_errors_in_their_order(self):
        for call in (above, alike):
            for value in any_but(lambda value: isinstance(value, Table)):
                self.raises(BadAsk("one"), call, value, value)
                self.raises(BadAsk("one"), call, other=TABLE, one=value)
                self.raises(BadAsk("other"), call, TABLE, value)
            self.raises(Unlike("day"), call, TABLE, TABLE.scaled(2))
            self.raises(Unlike("day"), call, Table(Day(3)), Table(Day(4)))


class TestLateness(Checks):
    def test_against_days_with_late_runs(self):
        dice = random.Random(119)
        told = set()
        for _ in range(300):
            table, pauses = small_case(dice, 6, "abc", 7)
            stocks = {place: stock(table, pauses, place) + dice.choice((-1, 0, 0, 1, 1, 2)) for place in table.places}
            stocks = {place: max(0, many) for place, many in stocks.items()}
            most = lateness(table, pauses, stocks)
            told.add(most if most is None else min(most, 1))
            if most is None:
                self.assertFalse([trip for trip in table if isinstance(trip, Run)])
                self.assertTrue(bears(table, pauses, stocks, lambda trip: 0))
                continue
            self.assertFalse(bears(table, pauses, stocks, lambda trip: most + 1))
            if most >= 0:
                self.assertTrue(bears(table, pauses, stocks, lambda trip: most))
                for _ in range(3):
                    self.assertTrue(bears(table, pauses, stocks, lambda trip: dice.randint(0, most)))
        self.assertEqual(told, {None, -1, 0, 1})

    def test_fewest_stocks_and_far_ones(self):
        self.same(lateness(TABLE, Pauses(a=20), {"a": 2, "b": 0}), -1)
        self.same(lateness(TABLE, Pauses(a=19), {"a": 2, "b": 0}), 0)
        self.same(lateness(TABLE, Pauses(a=20), {"a": 3, "b": 10 ** 12}), 5)
        self.same(lateness(TABLE, None, {"b": 10 ** 12, "a": 10 ** 12}), (10 ** 12 - 1) // 2 * 24 + 19)
        self.same(lateness(TABLE, Pauses(a=10 ** 12), {"a": 10 ** 11, "b": 10 ** 12}), (10 ** 11 - 1) // 2 * 24 + 19 - 10 ** 12)
        self.same(lateness(TABLE, Pauses(a=2 * 10 ** 11), {"a": 0, "b": 9}), -1)

    def test_no_run_comes_in(self):
        table = Table(DAY, Stay("w", "a", 6, 30), Stay("x", "b", 12, 18))
        self.same([lateness(table, None, {"a": 1, "b": 1}), lateness(table, Pauses(a=9), {"a": 0, "b": 1})], [None, -1])
        self.same(lateness(Table(DAY), None, {}), None)
        self.same(lateness(table=table, pauses=None, stocks={"b": 5, "a": 5}), None)

    def test_errors_in_their_order(self):
        for value in any_but(lambda value: isinstance(value, Table)):
            self.raises(BadAsk("table"), lateness, value, value, value)
        for value in any_but(lambda value: value is None or isinstance(value, Pauses)):
            self.raises(BadAsk("pauses"), lateness, TABLE, value, value)
        wrong = any_but(lambda value: False) + [[("a", 0), ("b", 0)], "ab", {"a": 0}, {"a": 0, "b": 0, "c": 0},
                                                {"a": 0, "c": 0}, {"a": 0, "b": 0, None: 0}, {"a": 10 ** 12 + 1, "b": 0}]
        for value in any_but(number) + [10 ** 12 + 1, -1]:
            wrong += [{"a": value, "b": 0}, {"a": 0, "b": value}]
        for value in wrong:
            self.raises(BadAsk("stocks"), lateness, TABLE, None, value)


class TestPapers(Checks):
    def test_made_of_any_values(self):
        self.check_paper(Above, "number", "pauses")
        self.check_paper(Endless, "place")
