"""Points [2], [10], [11] and [16], rounds.py: held against the table told for k days as one long day."""

import random
from math import gcd

from onelongturn.days import Day
from onelongturn.errors import BadAsk, BadDay, BadName, BadNumber, TooMany
from onelongturn.fewest import fewest
from onelongturn.rounds import Rounds, rounds, unrolled
from onelongturn.tables import Pauses, Table
from onelongturn.trips import Run, Stay
from onelongturn.turns import OneTurn, lots, one_turn
from tests.support import ANY_VALUES, BILLION_DAY, Checks, any_but, balanced_trips, integer, lived_lots, small_case
from tests.test_turns import tight_loops

DAY = Day(24)
TABLE = Table(DAY, Run("p", "a", 6, 2, "b"), Run("q", "b", 9, 2, "a"), Run("r", "a", 12, 2, "b"),
              Run("s", "b", 15, 2, "a"))
LOOPS = Table(DAY, Run("u", "a", 6, 24, "a"), Run("v", "a", 18, 24, "a"))
NO_DAYS = any_but(lambda value: integer(value) and value >= 1) + [0, -1, -(10 ** 30)]


def told_for(table, days):
    """The table told for some days as one long day, trip by trip."""
    length, trips = table.day.length, []
    for trip in table:
        for at in range(days):
            word = trip.name + "abcdefghijklmnopqrstuvwxyz"[at]
            if isinstance(trip, Run):
                trips.append(Run(word, trip.start, trip.leaves + at * length, trip.takes, trip.goal))
            else:
                trips.append(Stay(word, trip.start, trip.leaves + at * length, trip.takes))
    return Table(Day(length * days), *trips)


def ring(length, days, word="t", place="a"):
    """A loop of so many days, whose vehicles come in when they can leave again: no two of them ever meet."""
    return Table(Day(length), Run(word, place, 0, days * length, place))


class TestRounds(Checks):
    def check_round(self, table, pauses, found, days):
        """The round of so many days, told as a table; returns whether it has a plan of one turn."""
        long = unrolled(table, days)
        turned = one_turn(long, pauses)
        self.same(fewest(long, pauses).number, found.fewest)
        self.same(found.lots_of(days), len(lots(long, pauses)))
        self.same(found.vehicles_of(k=days), turned.number if isinstance(turned, OneTurn) else None)
        return bool(turned)

    def test_against_the_table_told_for_some_days(self):
        dice = random.Random(160)
        seen, periods = set(), set()
        for at in range(500):
            length = dice.choice((1, 2, 5, 24))
            table, pauses = small_case(dice, dice.choice((2, 4, 6)), "abc", length)
            if at % 3 == 0:
                table, pauses = tight_loops(dice, dice.randint(1, 4), "abc", 24), None
            found = rounds(table, pauses)
            self.same([type(found), found.fewest], [Rounds, fewest(table, pauses).number])
            turned = one_turn(table, pauses)
            self.same(found.more, turned.number - found.fewest if isinstance(turned, OneTurn) else None)
            self.same(len(found.periods), len(lots(table, pauses)))
            self.assertTrue(min(found.periods) >= 1)
            periods |= set(found.periods)
            for days in range(1, min(12, 40 // len(table)) + 1):
                kinds = (found.more, self.check_round(table, pauses, found, days), gcd(found.periods[0], days) > 1)
                seen.add(kinds if found.more in (None, 0) else (1, *kinds[1:]))
        self.assertEqual(seen - {(None, False, False), (1, True, False)},
                         {(None, False, True), (0, True, False), (0, True, True), (1, True, True)})
        self.assertTrue(set(range(1, 8)) <= periods)

    def test_lots_of_rounds_are_counted_minute_by_minute(self):
        dice = random.Random(161)
        for _ in range(60):
            table, pauses = small_case(dice, 3, "ab", dice.choice((1, 3, 6)))
            found = rounds(table, pauses)
            for days in (1, 2, 3, 4):
                self.same(found.lots_of(days), len(lived_lots(told_for(table, days), pauses)))

    def test_periods_of_loops(self):
        for length in (1, 7, BILLION_DAY // 17):
            for days in (1, 2, 6, 12, 17):
                found = rounds(ring(length, days))
                self.same(found == Rounds(days, 0, (days,)), True)
                for many in (1, 2, 3, 12, 17, 34, 10 ** 30, 17 * 10 ** 30, 2 ** 200, 3 ** 100):
                    self.same(found.lots_of(many), gcd(days, many))
                    self.same(found.vehicles_of(many), days if gcd(days, many) == 1 else days + 1)

    def test_the_same_by_a_pause_of_several_days(self):
        for pause in (0, 1, 23, 24, 30, 24 * 11):
            table = Table(DAY, Run("t", "a", 5, 24, "a"))
            found = rounds(table, Pauses(a=pause))
            days = 1 + -(-pause // 24)
            self.same(found == Rounds(days, 0, (days,)), True)
        self.same(rounds(Table(DAY, Stay("t", "a", 5, 48)), Pauses(a=99)) == Rounds(2, 0, (2,)), True)

    def test_several_lots(self):
        table = ring(24, 2, "t", "a") + ring(24, 3, "u", "b")
        found = rounds(table)
        self.same(found == Rounds(5, None, (2, 3)), True)
        self.same([found.lots_of(k) for k in (1, 2, 3, 6, 5)], [2, 3, 4, 5, 2])
        self.same([found.vehicles_of(k) for k in (1, 6, 10 ** 40)], [None] * 3)
        both = Table(DAY, Run("t", "a", 0, 48, "a"), Run("u", "a", 12, 72, "a"))
        found = rounds(both)
        self.same(found == Rounds(5, 1, (2, 3)), True)
        self.same([found.lots_of(6), found.vehicles_of(6), found.vehicles_of(7)], [5, 6, 6])

    def test_a_stretch_over_midnight(self):
        table = Table(DAY, Run("x", "a", 1, 22, "a"), Run("y", "a", 0, 23, "a"))
        self.same(rounds(table) == Rounds(2, 0, (1,)), True)
        for hour in range(24):
            self.same(rounds(LOOPS.moved(hour), Pauses(a=12)) == Rounds(3, 0, (3,)), True)
            self.same(rounds(TABLE.moved(hour), Pauses(a=2)) == Rounds(2, 0, (1,)), True)

    def test_a_day_of_one_minute(self):
        one = Table(Day(1), Stay("t", "a", 0, 1), Run("u", "a", 0, 4, "a"))
        self.same(rounds(one) == Rounds(5, 0, (1,)), True)
        self.same(rounds(one, Pauses(a=3)) == Rounds(8, 0, (1,)), True)
        self.same(rounds(one.without("t"), Pauses(a=3)) == Rounds(7, 0, (7,)), True)

    def test_forty_trips_on_the_longest_day(self):
        dice = random.Random(162)
        for places in ("a", "ab", "abcdefgh"):
            for longest in (10 ** 6, BILLION_DAY):
                table = Table(Day(BILLION_DAY), *balanced_trips(dice, BILLION_DAY, 40, places, longest))
                pauses = Pauses.of({place: dice.choice((0, dice.randrange(10 ** 12), 10 ** 12)) for place in places})
                found, turned = rounds(table, pauses), one_turn(table, pauses)
                self.same(found.vehicles_of(1), turned.number if turned else None)
                self.same([found.lots_of(1), found.fewest], [len(lots(table, pauses)), fewest(table, pauses).number])

    def test_rounds_of_the_longest_days(self):
        dice = random.Random(163)
        for _ in range(30):
            length = BILLION_DAY // 4
            table = Table(Day(length), *balanced_trips(dice, length, 10, "ab", 3 * length))
            pauses = Pauses(a=dice.randrange(10 ** 12), b=10 ** 12)
            for days in (1, 2, 3, 4):
                self.check_round(table, pauses, rounds(table, pauses), days)

    def test_numbers_of_days(self):
        for found in (rounds(LOOPS), rounds(LOOPS, Pauses(a=12)), rounds(ring(24, 2) + ring(24, 2, "u", "b"))):
            for value in NO_DAYS:
                self.raises(BadNumber(value), found.lots_of, value)
                self.raises(BadNumber(value), found.vehicles_of, k=value)

    def test_errors(self):
        for value in any_but(lambda value: isinstance(value, Table)):
            self.raises(BadAsk("table"), rounds, value, value)
            self.raises(BadAsk("table"), unrolled, value, value)
        for value in ANY_VALUES:
            self.raises(BadAsk("table"), rounds, Table(DAY), value)
        self.raises(BadAsk("table"), rounds, Table(DAY))
        for value in any_but(lambda value: value is None or isinstance(value, Pauses)):
            self.raises(BadAsk("pauses"), rounds, LOOPS, value)
            self.raises(BadAsk("pauses"), rounds, pauses=value, table=LOOPS)
        self.same(rounds(pauses=Pauses(a=12), table=LOOPS) == Rounds(3, 0, (3,)), True)

    def test_paper(self):
        self.check_paper(Rounds, "fewest", "more", "periods")


class TestUnrolled(Checks):
    def test_trip_by_trip(self):
        dice = random.Random(164)
        for _ in range(100):
            table, _ = small_case(dice, 3, "abc", dice.choice((1, 24)))
            for days in range(1, 13):
                told = unrolled(table, days)
                self.same([told == told_for(table, days), told.day.length], [True, table.day.length * days])

    def test_names_of_one_to_seven_letters(self):
        names = ["abcdefg"[:many] for many in range(1, 8)]
        table = Table(DAY, *[Stay(name, "a", 1, 2) for name in names])
        self.same(unrolled(k=1, table=table).names, tuple(sorted(name + "a" for name in names)))
        self.same(unrolled(table, 5).names, tuple(sorted(name + sign for name in names for sign in "abcde")))
        self.same(unrolled(Table(DAY, Stay("a", "x", 0, 1), Stay("aa", "x", 0, 1)), 3).names,
                  ("aa", "aaa", "aab", "aac", "ab", "ac"))

    def test_a_table_without_trips(self):
        self.same([unrolled(Table(DAY), k) == Table(Day(24 * k)) for k in (1, 12)], [True, True])

    def test_bounds(self):
        forty = Table(DAY, *[Stay(f"{a}{b}", "a", 1, 2) for a in "abcde" for b in "abcdefgh"])
        self.same(len(unrolled(forty, 1)), 40)
        self.raises(TooMany("trips", 40), unrolled, forty, 2)
        twenty = forty.without(*forty.names[20:])
        self.same(len(unrolled(twenty, 2)), 40)
        self.raises(TooMany("trips", 40), unrolled, twenty.with_trips(Stay("x", "a", 1, 1)), 2)
        self.same(len(unrolled(Table(DAY, *list(forty)[:3]), 12)), 36)
        self.raises(TooMany("trips", 40), unrolled, Table(DAY, *list(forty)[:4]), 12)
        long = Table(Day(BILLION_DAY // 2), Stay("w", "a", BILLION_DAY // 2 - 1, BILLION_DAY))
        self.same(unrolled(long, 2)["wb"].leaves, BILLION_DAY - 1)
        self.raises(BadDay(BILLION_DAY // 2 * 3), unrolled, long, 3)
        self.raises(BadDay(2 * BILLION_DAY), unrolled, Table(Day(BILLION_DAY)), 2)
        self.same(unrolled(Table(Day(BILLION_DAY)), 1).day.length, BILLION_DAY)

    def test_errors_in_their_order(self):
        for value in NO_DAYS + [13, 10 ** 12]:
            for table in (TABLE, Table(Day(BILLION_DAY), Stay("abcdefgh", "a", 0, 1)), Table(DAY)):
                self.raises(BadNumber(value), unrolled, table, value)
        eight = [Stay(name, "a", 0, 1) for name in ("z", "zzzzzzzz", "abcdefgh", "bcdefghi", "abcdefg")]
        for length, days in ((1, 1), (24, 9), (BILLION_DAY, 2)):
            self.raises(BadName("abcdefgh"), unrolled, Table(Day(length), *eight), days)
        many = [Stay(f"{a}{b}", "a", 1, 2) for a in "abcde" for b in "abcdefgh"]
        self.raises(BadDay(3 * BILLION_DAY), unrolled, Table(Day(BILLION_DAY), *many), 3)
        self.raises(TooMany("trips", 40), unrolled, Table(Day(BILLION_DAY // 3), *many), 3)
        self.raises(BadName("abcdefgh"), unrolled, Table(Day(BILLION_DAY), *many[:35], *eight), 3)
