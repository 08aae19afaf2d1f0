"""Points [2], [5] and [8], joined.py: held against the fewest vehicles of two tables one by one and together."""

import random
from itertools import product

from onelongturn.curves import stands
from onelongturn.days import Day
from onelongturn.errors import BadAsk, TooMany, Twice, Unlike
from onelongturn.fewest import fewest, stock
from onelongturn.joined import Saved, saved, saved_ever
from onelongturn.tables import Pauses, Table
from onelongturn.trips import Run, Stay
from tests.support import BILLION_DAY, Checks, Lived, any_but, balanced_trips

DAY = Day(24)
TABLE = Table(DAY, Run("p", "a", 6, 2, "b"), Run("q", "b", 9, 2, "a"))
OTHER = Table(DAY, Run("r", "a", 12, 2, "b"), Run("s", "b", 15, 2, "a"))


def two_tables(dice, longest=9, places="abc", most=6):
    length = dice.randint(1, longest)
    tables = []
    for sign in "tu":
        chosen = dice.sample(places, dice.randint(1, len(places)))
        tables.append(Table(Day(length), *balanced_trips(dice, length, dice.randint(1, most), chosen, 2 * length, sign)))
    return tables


def all_pauses(places, numbers):
    return [Pauses.of(dict(zip(places, told))) for told in product(numbers, repeat=len(places))]


class TestSaved(Checks):
    def test_one_by_one_and_together(self):
        dice = random.Random(130)
        told = set()
        for _ in range(300):
            one, other = two_tables(dice)
            pauses = dice.choice((None, Pauses(a=dice.randint(0, 20), b=dice.randint(0, 20), c=dice.randint(0, 20))))
            found = saved(one, other, pauses)
            both = one + other
            many = [fewest(table, pauses).number for table in (one, other, both)]
            told.add(found.number)
            self.same([type(found), found.number], [Saved, many[0] + many[1] - many[2]])
            self.same(list(sorted(found.places)), list(both.places))
            for place in both.places:
                parts = [table for table in (one, other) if place in table.places]
                wanted = sum(stock(part, pauses, place) for part in parts) - stock(both, pauses, place)
                self.same(found.places[place], wanted)
                if len(parts) == 1:
                    self.same(wanted, 0)
                else:
                    self.same(wanted, (stands(one, pauses, place) + stands(other, pauses, place)).least)
            self.same(saved(pauses=pauses, other=other, one=one) == found, True)
            self.same(saved(other, one, pauses) == found, True)
        self.assertTrue({0, 1, 2} <= told)

    def test_lived_days(self):
        dice = random.Random(131)
        for _ in range(40):
            one, other = two_tables(dice, 7, "ab")
            pauses = Pauses(a=dice.randint(0, 9))
            many = [Lived(table, pauses).bought for table in (one, other, one + other)]
            self.same(saved(one, other, pauses).number, many[0] + many[1] - many[2])

    def test_without_pauses(self):
        self.same(saved(TABLE, OTHER) == Saved(1, {"a": 1, "b": 0}), True)
        self.same([saved(TABLE, OTHER, pauses) == saved(TABLE, OTHER) for pauses in (None, Pauses(), Pauses(c=4))], [True] * 3)
        self.same(saved(TABLE, OTHER, Pauses(a=2)).places, {"a": 0, "b": 0})

    def test_tables_without_trips_or_without_a_place_in_common(self):
        empty = Table(DAY)
        self.same([saved(empty, empty) == Saved(0, {}), saved_ever(empty, empty)], [True, (0, 0)])
        self.same([saved(TABLE, empty, Pauses(a=3)).places, saved(empty, TABLE).places], [{"a": 0, "b": 0}] * 2)
        self.same([saved_ever(TABLE, empty), saved_ever(empty, TABLE)], [(0, 0), (0, 0)])
        apart = Table(DAY, Run("x", "c", 1, 2, "c"), Stay("y", "d", 1, 2))
        self.same(saved(TABLE, apart).places, {"a": 0, "b": 0, "c": 0, "d": 0})
        self.same([saved(TABLE, apart).number, saved_ever(TABLE, apart), saved_ever(apart, TABLE)], [0, (0, 0), (0, 0)])

    def test_a_told_dict_may_be_changed(self):
        found = saved(TABLE, OTHER)
        found.places.clear()
        self.same(saved(TABLE, OTHER).places, {"a": 1, "b": 0})


class TestSavedEver(Checks):
    def test_against_all_pauses(self):
        dice = random.Random(132)
        apart = set()
        for _ in range(150):
            one, other = two_tables(dice, 6, "ab")
            length = one.day.length
            numbers = [saved(one, other, pauses).number for pauses in all_pauses("ab", range(length))]
            found = saved_ever(one, other)
            self.same(found, (min(numbers), max(numbers)))
            self.same(saved_ever(other=other, one=one), saved_ever(other, one))
            apart.add(found[1] - found[0])
            for pauses in all_pauses("ab", (length, 2 * length - 1, 3 * length)):
                self.assertTrue(found[0] <= saved(one, other, pauses).number <= found[1])
        self.assertTrue({0, 1, 2} <= apart)

    def test_the_longest_day(self):
        dice = random.Random(133)
        for places in ("a", "ab", "abcdefgh"):
            one, other = (Table(Day(BILLION_DAY), *balanced_trips(dice, BILLION_DAY, 20, places, 10 ** 12, sign))
                          for sign in "tu")
            least, greatest = saved_ever(one, other)
            for _ in range(50):
                pauses = Pauses.of({place: dice.randrange(10 ** 12 + 1) for place in places})
                found = saved(one, other, pauses)
                many = [fewest(table, pauses).number for table in (one, other, one + other)]
                self.same([found.number, sum(found.places.values())], [many[0] + many[1] - many[2]] * 2)
                self.assertTrue(least <= found.number <= greatest)


class TestErrors(Checks):
    def test_arguments(self):
        for value in any_but(lambda value: isinstance(value, Table)):
            self.raises(BadAsk("one"), saved, value, value, value)
            self.raises(BadAsk("other"), saved, TABLE, value, value)
            self.raises(BadAsk("one"), saved_ever, value, value)
            self.raises(BadAsk("other"), saved_ever, other=value, one=TABLE)
        for value in any_but(lambda value: value is None or isinstance(value, Pauses)):
            self.raises(BadAsk("pauses"), saved, TABLE, TABLE.scaled(2), value)
            self.raises(BadAsk("pauses"), saved, TABLE, TABLE, pauses=value)

    def test_of_the_sum(self):
        many, more = (Table(DAY, *[Run(sign + chr(97 + at), "a", at, 2, "a") for at in range(21)]) for sign in "xy")
        wide, wider = (Table(DAY, *[Stay(sign, sign, 3, 2) for sign in signs]) for signs in ("cdefg", "hijkl"))
        for call in (saved, saved_ever):
            self.raises(Unlike("day"), call, TABLE, TABLE.scaled(2))
            self.raises(Twice("p"), call, TABLE, TABLE)
            self.raises(Twice("q"), call, TABLE, TABLE.without("p", "q").with_trips(Stay("q", "a", 1, 1)))
            self.raises(Twice("xa"), call, many, many)
            self.raises(TooMany("trips", 40), call, many, more)
            self.raises(TooMany("places", 8), call, wide, wider)


class TestPaper(Checks):
    def test_made_of_any_values(self):
        self.check_paper(Saved, "number", "places")
