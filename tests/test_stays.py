"""Points [2], [10], [11] and [17], stays.py: held against tables with a stay more, and against searches on short days."""

import random
from fractions import Fraction
from unittest.mock import patch

from onelongturn.clocks import Clocks
from onelongturn.curves import stands
from onelongturn.days import Day
from onelongturn.errors import BadAsk, BadNumber, NoPlace, TooMany
from onelongturn.fewest import fewest
from onelongturn.stays import MostStays, free, kept, most_stays
from onelongturn.tables import Pauses, Table
from onelongturn.trips import Run, Stay
from onelongturn.turns import one_turn
from tests.support import (
    ANY_VALUES, BILLION_DAY, Checks, Lived, any_but, balanced_trips, integer, small_case,
)
from tests.test_turns import LOOPS, TABLE, loop_row, tight_loops

DAY = Day(24)
EIGHT = ["abcdefg" + sign for sign in "abcdefgh"]


def number_takes(value):
    return integer(value) and 1 <= value <= 10 ** 12


def gap_table(length, gaps):
    """A table of one place, with nobody but those that stand there in these gaps (first clock, minutes) a day."""
    runs = [Run("t" + chr(97 + at), "a", (first + many) % length, length - many or length, "a")
            for at, (first, many) in enumerate(gaps)]
    return Table(Day(length), *runs)


class TestFreeAndKept(Checks):
    def check_clocks(self, table, pauses, place, takes, clocks):
        """Clock by clock, by the table with this stay; returns how many are free and how many are kept."""
        least, turned = fewest(table, pauses).number, one_turn(table, pauses)
        at_no_cost, staying = free(table, pauses, place, takes), kept(table, pauses, place, takes)
        self.same([type(at_no_cost), type(staying), staying.day == table.day], [Clocks, Clocks, True])
        many = [0, 0]
        for clock in clocks:
            more = table.with_trips(Stay("stay", place, clock, takes))
            is_free = fewest(more, pauses).number == least
            is_kept = is_free and bool(turned) and one_turn(more, pauses).number == turned.number
            self.same([clock in at_no_cost, clock in staying], [is_free, is_kept])
            many = [many[0] + is_free, many[1] + is_kept]
        return many

    def test_clock_by_clock(self):
        dice = random.Random(170)
        lost, held = 0, 0
        for at in range(220):
            table, pauses = small_case(dice, dice.choice((2, 4, 9)), "abc", dice.choice((1, 2, 9, 24)))
            if at % 4 == 0:
                table, pauses = tight_loops(dice, dice.randint(1, 6), "abc", 24), None
            if at % 4 == 1:
                table = Table(DAY, *balanced_trips(dice, 24, dice.randint(2, 10), "ab", 9))
            for place in table.places:
                takes = dice.choice((1, 2, dice.randint(1, table.day.length), table.day.length + 1, 10 ** 12))
                many = self.check_clocks(table, pauses, place, takes, range(table.day.length))
                lost, held = lost + many[0] - many[1], held + many[1]
        self.assertTrue(lost > 50 and held > 500)

    def test_by_days_that_are_lived(self):
        dice = random.Random(171)
        for _ in range(60):
            table = Table(Day(9), *balanced_trips(dice, 9, dice.randint(1, 6), "ab", 12))
            pauses = Pauses(a=dice.randrange(20))
            standing = Lived(table, pauses).standing
            for place in table.places:
                for takes in (1, 2, 5, 8, 9, 10):
                    wanted = [clock for clock in range(9) if takes < 9 and all(
                        standing[place][(clock + minute) % 9] for minute in range(takes))]
                    self.same(list(free(table, pauses, place, takes).each()), wanted)

    def test_takes_of_a_day_and_more(self):
        for call in (free, kept):
            for takes in (24, 25, 48, 10 ** 12):
                self.same(call(TABLE, Pauses(a=2), "a", takes).pieces, ())
            self.same(call(TABLE, Pauses(a=2), "a", 17).pieces, ((13, 19),))
            self.same(call(TABLE, Pauses(a=2), "a", 23).pieces, ((13, 13),))
            self.same(call(Table(Day(1), Stay("w", "a", 0, 1)), None, "a", 1).pieces, ())

    def test_without_a_plan_of_one_turn(self):
        apart = TABLE + Table(DAY, Run("x", "c", 1, 2, "c"))
        self.same([free(apart, None, "a", 2).pieces, kept(apart, None, "a", 2).pieces], [((17, 4),), ()])
        self.same(free(apart, None, "c", 2).pieces, ((3, 23),))
        self.same(kept(apart, None, "c", 2).pieces, ())

    def test_a_stay_that_parts_two_stretches(self):
        gap = gap_table(24, [(0, 8), (6, 6)])
        self.same(stands(gap, None, "a").steps, ((0, 1), (6, 2), (8, 1), (12, 0)))
        self.same([free(gap, None, "a", 3).pieces, kept(gap, None, "a", 3).pieces], [((0, 9),), ((0, 9),)])
        touching = gap_table(24, [(0, 6), (6, 6)])
        self.same(stands(touching, None, "a").steps, ((0, 1), (12, 0)))
        self.same(free(touching, None, "a", 3).pieces, ((0, 9),))
        self.check_clocks(touching, None, "a", 3, range(24))

    def test_forty_trips_and_a_forty_first(self):
        dice = random.Random(172)
        with patch("onelongturn.tables.MOST_TRIPS", 41):
            for at in range(12):
                places = ("a", "ab", EIGHT)[at % 3]
                length = (BILLION_DAY, 10 ** 6)[at % 2]
                table = Table(Day(length), *balanced_trips(dice, length, 40, places, length))
                pauses = None if at % 4 == 0 else Pauses.of({place: dice.randrange(10 ** 12) for place in places})
                place = dice.choice(table.places)
                for takes in (1, dice.randrange(1, length // 50), length // 3):
                    found = [free(table, pauses, place, takes), kept(table, pauses, place, takes)]
                    clocks = {0, length - 1}
                    for first, last in list(found[0])[:8] + list(found[1])[:8]:
                        clocks |= {(clock + step) % length for clock in (first, last) for step in (-1, 0, 1)}
                    self.check_clocks(table, pauses, place, takes, dice.sample(sorted(clocks), min(12, len(clocks))))

    def test_at_least_two_places_are_taken(self):
        for length in (24, BILLION_DAY):
            table = loop_row(length, "abcdefgh")
            wide = Table.of(table.day, list(table) + [Stay("zz", "d", 5, length - 9)])
            for place in wide.places:
                clocks = range(24) if length == 24 else [0, 1, 2, 3, 4, 5, 6, length - 5, length - 4, length - 3, length - 1]
                self.check_clocks(wide, None, place, 2, clocks)
            self.assertTrue(len(one_turn(wide).taken) >= 5)

    def test_pieces_of_the_longest_day(self):
        table = Table(Day(BILLION_DAY), Run("x", "a", 10, 5, "b"), Run("y", "b", 20, 5, "a"))
        self.same(free(table, None, "a", 1).pieces, ((25, 9),))
        self.same(free(table, Pauses(a=10 ** 12 - 1), "a", 1).pieces, ((24, 9),))
        self.same(kept(table, None, "a", BILLION_DAY - 15).pieces, ((25, 25),))
        self.same(kept(table, None, "a", BILLION_DAY - 14).pieces, ())
        self.same(kept(table, Pauses(a=BILLION_DAY), "a", 7).pieces, ((25, 3),))

    def test_errors_in_their_order(self):
        for call in (free, kept):
            for value in any_but(lambda value: isinstance(value, Table)):
                self.raises(BadAsk("table"), call, value, value, value, value)
            for value in any_but(lambda value: value is None or isinstance(value, Pauses)):
                self.raises(BadAsk("pauses"), call, TABLE, value, value, value)
            for value in any_but(lambda value: value == "a") + ["c"]:
                self.raises(NoPlace(value), call, TABLE, None, value, value)
                self.raises(NoPlace(value), call, takes=0, place=value, pauses=None, table=TABLE)
            for value in any_but(number_takes) + [0, -1, 10 ** 12 + 1]:
                self.raises(BadNumber(value), call, TABLE, None, "a", value)
        for value in ANY_VALUES:
            self.raises(BadAsk("table"), kept, Table(DAY), value, value, value)
            self.raises(NoPlace(value), free, Table(DAY), None, value, value)


def most_by_search(heights, takes):
    """The most stays of a day, by trying how many begin at each clock."""
    length, best = len(heights), 0

    def go_on(clock, left, many):
        nonlocal best
        best = max(best, many)
        if clock < length:
            within = [(clock + minute) % length for minute in range(takes)]
            for more in range(min(left[minute] for minute in within) + 1):
                less = list(left)
                for minute in within:
                    less[minute] -= more
                go_on(clock + 1, less, many + more)

    go_on(0, list(heights), 0)
    return best


def least_by_rows(heights, takes):
    """The least sum for its rounds of all rows that go round up to as many times as the day has minutes."""
    length, found = len(heights), []
    for begin in range(length):
        sums = {begin: 0}
        for moment in range(begin + 1, begin + length * length + 1):
            ahead = [sums[earlier] for earlier in range(max(begin, moment - takes), moment)]
            sums[moment] = min(ahead) + heights[moment % length]
            if (moment - begin) % length == 0:
                found.append(Fraction(sums[moment], (moment - begin) // length))
    return min(found)


class TestMostStays(Checks):
    def heights(self, table, pauses, place, spare):
        curve = stands(table, pauses, place)
        return [height + spare for first, last, height in curve for _ in range(first, last + 1)]

    def check_most(self, table, pauses, place, takes, spare):
        found = most_stays(table, pauses, place, takes, spare)
        heights, length = self.heights(table, pauses, place, spare), table.day.length
        self.same(type(found), MostStays)
        self.same([found.number, list(found.starts)], [len(found.starts), sorted(found.starts)])
        cover = [0] * (2 * length + 1)
        for clock in found.starts:
            self.assertTrue(type(clock) is int and 0 <= clock < length)
            cover[clock] += 1
            cover[clock + takes] -= 1
        many = 0
        for moment in range(2 * length):
            many += cover[moment]
            cover[moment] = many
        for clock in range(length):
            self.assertTrue(cover[clock] + cover[clock + length] <= heights[clock])
        row = found.row
        self.same([type(row), all(type(clock) is int and 0 <= clock < length for clock in row)], [tuple, True])
        steps = [(behind - clock) % length or length for clock, behind in zip(row, row[1:] + row[:1])]
        self.assertTrue(1 <= len(row) <= 2000 and max(steps) <= takes)
        self.same([sum(steps), type(found.rounds)], [found.rounds * length, int])
        self.same(sum(heights[clock] for clock in row) // found.rounds, found.number)
        self.same(most_stays(table, pauses, place, takes, spare) == found, True)
        return found

    def test_against_a_search(self):
        dice = random.Random(173)
        seen = set()
        for _ in range(250):
            length = dice.randint(1, 6)
            table = Table(Day(length), *balanced_trips(dice, length, dice.randint(1, 8), "ab", 9))
            pauses, spare = dice.choice((None, Pauses(a=dice.randrange(9)))), dice.choice((0, 0, 1, 2))
            for takes in range(1, length + 1):
                found = self.check_most(table, pauses, "a" if "a" in table.places else "b", takes, spare)
                heights = self.heights(table, pauses, "a" if "a" in table.places else "b", spare)
                self.same(found.number, int(least_by_rows(heights, takes)))
                if sum(heights) < 9:
                    self.same(found.number, most_by_search(heights, takes))
                seen.add(min(found.rounds, 3))
        self.assertEqual(seen, {1, 2, 3})

    def test_rows_that_go_round_many_times(self):
        for length, takes, spare, wanted in ((1999, 1000, 1, 1), (2000, 1999, 40, 40), (2000, 7, 5, 1428), (1998, 1001, 13, 25),
                                             (1999, 1999, 3, 3), (2000, 1, 1, 2000), (997, 333, 40, 119), (1009, 2, 3, 1513)):
            table = Table(Day(length), Stay("w", "a", 4, length))
            self.same(self.check_most(table, None, "a", takes, spare).number, wanted)
            self.same(wanted, spare * length // takes)
        self.same(self.check_most(Table(Day(1999), Stay("w", "a", 0, 5)), None, "a", 1000, 1).number, 3)

    def test_days_of_two_thousand_minutes(self):
        dice = random.Random(174)
        for at in range(60):
            length = dice.choice((1997, 1999, 2000))
            table = Table(Day(length), *balanced_trips(dice, length, dice.choice((4, 20, 40)), dice.choice(("a", "ab")), 900))
            pauses, spare = dice.choice((None, Pauses(a=10 ** 12))), dice.choice((0, 1, 7, 40))
            takes = dice.choice((dice.randint(60, length), dice.randint(600, 1100), length - 1, length, 100, 81))
            self.check_most(table, pauses, table.places[0], takes, spare)

    def test_stays_of_nearly_a_day_and_of_nearly_a_part_of_it(self):
        dice = random.Random(175)
        for at in range(40):
            length = (1997, 1999, 2000)[at % 3]
            clocks = sorted(dice.sample(range(length), dice.choice((2, 4, 6))))
            table = gap_table(length, [(one, other - one) for one, other in zip(clocks[::2], clocks[1::2])])
            spare = dice.choice((1, 5, 39, 40))
            for parts in (1, 2, 3):
                self.check_most(table, None, "a", length // parts - dice.choice((-1, 0, 1, 3, 19)) * (parts > 1), spare)
            self.check_most(table, None, "a", length - dice.choice((1, 3, 19, 37)), spare)

    def test_two_thousand_stays_and_more(self):
        table = gap_table(2000, [(5, 1)])
        self.same(len(self.check_most(table.without("ta").with_trips(Stay("w", "a", 0, 2000)), None, "a", 1, 1).starts), 2000)
        self.raises(TooMany("stays", 2000), most_stays, table, None, "a", 1, 1)
        self.raises(TooMany("stays", 2000), most_stays, table, None, "a", 1, 40)
        self.raises(TooMany("stays", 2000), most_stays, table, None, "a", 2, 3)
        self.same(self.check_most(table, None, "a", 2, 2).number, 2000)
        self.same(self.check_most(table, None, "a", 40, 40).number, 2000)
        self.raises(TooMany("stays", 2000), most_stays, table, None, "a", 39, 40)

    def test_takes_one_and_the_whole_day(self):
        self.same(self.check_most(TABLE, Pauses(a=2), "a", 1, 0).number, 12 + 6 + 6 + 10)
        for spare in range(41):
            self.same(self.check_most(TABLE, None, "a", 24, spare).number, spare)
            self.same(most_stays(TABLE, None, "a", 24, spare).starts, most_stays(TABLE, None, "a", 24, spare=spare).starts)
        self.same(most_stays(TABLE, None, "a", 24).number, 0)
        self.same(self.check_most(Table(Day(1), Stay("w", "a", 0, 1)), None, "a", 1, 40).number, 40)
        self.same(self.check_most(gap_table(24, [(6, 6), (18, 6)]), None, "a", 6, 0).starts, (6, 18))
        self.same(self.check_most(gap_table(24, [(20, 6), (20, 6)]), None, "a", 6, 0).starts, (20, 20))

    def test_errors_in_their_order(self):
        long = Table(Day(2001), Stay("w", "a", 0, 1))
        for value in any_but(lambda value: isinstance(value, Table)):
            self.raises(BadAsk("table"), most_stays, value, value, value, value, value)
        for value in any_but(lambda value: value is None or isinstance(value, Pauses)):
            self.raises(BadAsk("pauses"), most_stays, long, value, value, value, value)
        for value in any_but(lambda value: value == "a") + ["b"]:
            self.raises(NoPlace(value), most_stays, long, None, value, value, value)
            self.raises(NoPlace(value), most_stays, Table(DAY), None, value, value, value)
        for value in any_but(lambda value: integer(value) and 1 <= value <= 2001) + [0, -1, 2002]:
            self.raises(BadNumber(value), most_stays, long, None, "a", value, value)
            self.raises(BadNumber(value), most_stays, spare=41, takes=value, place="a", pauses=None, table=long)
        for value in any_but(lambda value: integer(value) and 0 <= value <= 40) + [-1, 41]:
            self.raises(BadNumber(value), most_stays, long, None, "a", 2001, value)
        self.raises(BadNumber(25), most_stays, TABLE, None, "a", 25)
        for takes, spare in ((1, 0), (2001, 40)):
            self.raises(TooMany("minutes", 2000), most_stays, long, None, "a", takes, spare)

    def test_paper(self):
        self.check_paper(MostStays, "number", "starts", "rounds", "row")
        self.same(most_stays(LOOPS, None, "a", 7, 1) == MostStays(0, (), 1, ()), False)
