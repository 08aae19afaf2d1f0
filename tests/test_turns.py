"""Points [2], [10] and [11], turns.py: held against counts minute by minute, and against all plans of small tables."""

import random
from itertools import chain, combinations

from onelongturn.days import Day
from onelongturn.errors import BadAsk, NoPlace
from onelongturn.fewest import fewest
from onelongturn.plans import Plan
from onelongturn.rules import LastIn, plan_by
from onelongturn.swaps import merged
from onelongturn.tables import Pauses, Table
from onelongturn.trips import Run, Stay
from onelongturn.turns import Apart, OneTurn, Turning, lots, one_turn, stretches
from tests.support import (
    ANY_VALUES, BILLION_DAY, Checks, any_but, balanced_trips, every_plan, lived_lots, lived_stretches, small_case,
)

DAY = Day(24)
TABLE = Table(DAY, Run("p", "a", 6, 2, "b"), Run("q", "b", 9, 2, "a"), Run("r", "a", 12, 2, "b"),
              Run("s", "b", 15, 2, "a"))
LOOPS = Table(DAY, Run("u", "a", 6, 24, "a"), Run("v", "a", 18, 24, "a"))


def sets_of(places):
    """All sets of places as ascending tuples, the lesser ones first, of one size ascending."""
    return list(chain.from_iterable(combinations(places, many) for many in range(len(places) + 1)))


def tied(parts, table, taken):
    """How many parts are left if those that touch a common taken place are one."""
    rows = [set(part) for part in parts]
    for place in taken:
        touching = [row for row in rows if any(place in (table[name].start, table[name].goal) for name in row)]
        rows = [row for row in rows if row not in touching] + [set().union(*touching)]
    return len(rows)


def loop_row(length, places):
    """Between each place and the next one a run there and one back, which leave in the minute in which one is ready."""
    trips = []
    for at, (place, other) in enumerate(zip(places, places[1:])):
        trips.append(Run("o" + place, place, at, length // 2, other))
        trips.append(Run("r" + place, other, at + length // 2, length - length // 2, place))
    return Table(Day(length), *trips)


def tight_loops(dice, many, places, length):
    """Loops of two runs, from a place to another one and back in a day, in the minute in which one is ready."""
    trips = []
    for at in range(many):
        place, other = dice.sample(places, 2)
        leaves, takes, word = dice.randrange(length), dice.randrange(1, length), chr(97 + at)
        trips.append(Run("o" + word, place, leaves, takes, other))
        trips.append(Run("r" + word, other, (leaves + takes) % length, length - takes, place))
    return Table(Day(length), *trips)


class TestStretches(Checks):
    def test_against_a_count_minute_by_minute(self):
        dice = random.Random(100)
        kinds = set()
        for _ in range(500):
            table, pauses = small_case(dice, dice.choice((2, 6, 12)), "abc", dice.choice((1, 3, 9, 24)))
            for place in table.places:
                told = stretches(table, pauses, place)
                self.same(told, lived_stretches(table, pauses, place))
                kinds.add("one" if len(told) == 1 else "several")
                kinds |= {"alone" for clocks in told if len(clocks) == 1}
                kinds |= {"midnight" for clocks in told if clocks[0] > clocks[-1]}
        self.assertEqual(kinds, {"one", "several", "alone", "midnight"})

    def test_several_days(self):
        table = Table(DAY, Run("x", "a", 23, 73, "a"), Stay("w", "a", 3, 50))
        self.same(stretches(table, None, "a"), ((0, 3), (5, 23)))
        self.same(stretches(table, Pauses(a=49), "a"), ((1, 3), (5, 23)))
        self.same(stretches(table, Pauses(a=240 + 6), "a"), ((5, 6, 23, 3),))
        self.same(stretches(table=table, pauses=None, place="a"), stretches(table, Pauses(), "a"))

    def test_one_event_clock_alone(self):
        for length in (1, 2, 24, BILLION_DAY):
            table = Table(Day(length), Stay("w", "a", 0, length), Run("x", "a", 0, length, "a"))
            self.same(stretches(table, None, "a"), ((0,),))
            self.same(stretches(table, Pauses(a=length), "a"), ((0,),))

    def test_order_from_the_begin_on(self):
        table = Table(DAY, Stay("v", "a", 4, 1), Stay("w", "a", 6, 1), Stay("x", "a", 10, 22))
        self.same(stretches(table, None, "a"), ((5, 6), (7, 8, 10, 4)))
        self.same(stretches(table.moved(19), None, "a"), ((0, 1), (2, 3, 5, 23)))
        self.same(stretches(table.moved(20), None, "a"), ((1, 2), (3, 4, 6, 0)))


class TestLots(Checks):
    def test_against_a_count_minute_by_minute(self):
        dice = random.Random(101)
        many = set()
        for _ in range(250):
            table, pauses = small_case(dice, dice.choice((3, 6, 12)), "abcd", dice.choice((1, 4, 9, 24)))
            if dice.random() < 0.3:
                table, pauses = tight_loops(dice, dice.randint(2, 6), "abcd", 24), None
            many.add(len(lots(table, pauses)))
            self.same(lots(table, pauses), lived_lots(table, pauses))
            for taken in ((), table.places, tuple(dice.sample(table.places, dice.randint(1, len(table.places))))):
                wanted = lived_lots(table, pauses, taken)
                for told in (taken, list(taken), taken + taken, list(reversed(taken + taken[:1]))):
                    self.same(lots(table, pauses, told), wanted)
                self.same(lots(table=table, pauses=pauses, taken=taken), wanted)
        self.assertTrue({1, 2, 3, 4} <= many)

    def test_all_places_taken(self):
        parts = Table(DAY, Run("x", "c", 1, 2, "d"), Run("y", "d", 1, 2, "c"), Stay("w", "e", 4, 5))
        self.same(lots(TABLE + parts, None, ["e", "d", "c", "b", "a"]), (("p", "q", "r", "s"), ("w",), ("x", "y")))

    def test_the_list_does_not_change(self):
        taken = ["a", "a"]
        self.same([lots(LOOPS, None, taken), taken], [(("u", "v"),), ["a", "a"]])

    def test_a_table_without_trips(self):
        self.same([lots(Table(DAY), None), lots(Table(DAY), Pauses(a=3), [])], [(), ()])
        self.raises(NoPlace("a"), lots, Table(DAY), None, ["a"])


class TestOneTurn(Checks):
    def check_found(self, table, pauses):
        """The OneTurn of a table that has one; returns how many more vehicles it wants."""
        found = one_turn(table, pauses)
        self.assertIs(type(found), OneTurn)
        self.assertIs(bool(found), True)
        self.same([found.plan.is_one, found.plan.vehicles, found.plan.table == table], [True, found.number, True])
        self.assertTrue(found.plan.pauses == (Pauses() if pauses is None else pauses))
        self.same(found.number, fewest(table, pauses).number + len(found.taken))
        self.same([place for place in table.places if found.plan.spare(place)], list(found.taken))
        return len(found.taken)

    def test_against_all_plans(self):
        dice = random.Random(102)
        more = set()
        for _ in range(250):
            table, pauses = small_case(dice, 6, "abc", dice.choice((2, 5, 12)))
            least = min((plan.vehicles for plan in every_plan(table, pauses) if plan.is_one), default=None)
            found = one_turn(table, pauses)
            if least is None:
                self.same([type(found), bool(found)], [Apart, False])
                self.same(found.parts, lived_lots(table, pauses, table.places))
                self.assertGreater(len(found.parts), 1)
                more.add(None)
            else:
                more.add(self.check_found(table, pauses))
                self.same(found.number, least)
        self.assertTrue({None, 0, 1} <= more)

    def test_against_all_sets_of_places(self):
        dice = random.Random(103)
        more = set()
        for at in range(120):
            table, pauses = small_case(dice, 10, "abcd", 12)
            if at % 2:
                table, pauses = tight_loops(dice, dice.randint(2, 6), "abcd", 24), None
            sets = [taken for taken in sets_of(table.places) if len(lived_lots(table, pauses, taken)) == 1]
            if sets:
                self.same(one_turn(table, pauses).taken, sets[0])
                more.add(self.check_found(table, pauses))
            else:
                self.same(one_turn(table, pauses) == Apart(lived_lots(table, pauses, table.places)), True)
        self.assertTrue({0, 1, 2} <= more)

    def test_against_all_sets_of_eight_places(self):
        dice = random.Random(104)
        more = set()
        for at in range(60):
            table = Table(Day(997), *balanced_trips(dice, 997, dice.randint(16, 30), "abcdefgh", 900))
            if at % 3:
                table = tight_loops(dice, dice.randint(8, 20), "abcdefgh", 997)
            parts = lots(table, None)
            sets = [taken for taken in sets_of(table.places) if tied(parts, table, taken) == 1]
            found = one_turn(table)
            if sets:
                self.same(found.taken, sets[0])
                more.add(self.check_found(table, None))
            else:
                self.same(type(found), Apart)
        self.assertTrue({0, 1, 3, 4, 5} <= more)

    def test_eight_places_in_a_row(self):
        for length in (24, BILLION_DAY):
            for places, taken in (("abcdefgh", "bcdefg"), ("hgfedcba", "bcdefg"), ("adbechfg", "bcdefh"), ("ab", "")):
                table = loop_row(length, places)
                self.same(len(lots(table, None)), len(places) - 1)
                self.same([one_turn(table).taken, self.check_found(table, None)], [tuple(taken), len(taken)])
        self.same(one_turn(loop_row(24, "abcdefgh")).number, 7 + 6)

    def test_the_least_of_several_sets(self):
        pair = [Run("o", "a", 0, 12, "b"), Run("r", "b", 12, 12, "a"), Run("x", "b", 6, 12, "a"), Run("y", "a", 18, 12, "b")]
        table = Table(DAY, *pair)
        self.same([lots(table, None), one_turn(table).taken], [(("o", "r"), ("x", "y")), ("a",)])
        third = Table(DAY, Run("g", "b", 1, 12, "c"), Run("h", "c", 13, 12, "b"))
        self.same(one_turn(table + third).taken, ("b",))
        fourth = Table(DAY, Run("e", "a", 2, 24, "a"))
        self.same([one_turn(table + third + fourth).taken, self.check_found(table + third + fourth, None)], [("a", "b"), 2])

    def test_many_lots_at_one_place(self):
        for length in (40, BILLION_DAY):
            trips = [Run("t" + chr(97 + at // 26) + chr(97 + at % 26), "a", at, length, "a") for at in range(40)]
            table = Table(Day(length), *trips)
            self.same([len(lots(table, None)), self.check_found(table, None)], [40, 1])
            self.same([one_turn(table).number, one_turn(table, Pauses(a=1)).number], [41, 41])

    def test_forty_trips_on_the_longest_day(self):
        dice = random.Random(105)
        more = set()
        for places in ("ab", "abcdefgh"):
            for _ in range(15):
                table = Table(Day(BILLION_DAY), *balanced_trips(dice, BILLION_DAY, 40, places, BILLION_DAY))
                for pauses in (None, Pauses.of({place: dice.choice((dice.randrange(10 ** 12), 10 ** 12)) for place in places})):
                    if bool(one_turn(table, pauses)):
                        more.add(self.check_found(table, pauses))
                        parts = lots(table, pauses)
                        self.same(len(merged(plan_by(table, pauses, LastIn())).plan), len(parts))
                    else:
                        self.same(one_turn(table, pauses).parts, lots(table, pauses, table.places))
        self.assertIn(0, more)

    def test_neither_number_falls_when_a_pause_grows(self):
        dice = random.Random(106)
        for _ in range(60):
            table, _ = small_case(dice, 6, "ab", 8)
            if one_turn(table):
                for place in table.places:
                    numbers = [[call(table, Pauses.of({place: m})).number for m in range(20)] for call in (fewest, one_turn)]
                    self.same(numbers, [sorted(row) for row in numbers])

    def test_taken_places_can_be_none(self):
        found = one_turn(table=TABLE, pauses=Pauses(a=2))
        self.same([found.number, found.taken, found.plan.turns], [2, (), (("p", "q", "r", "s"),)])
        self.same([one_turn(TABLE) == one_turn(TABLE, None), one_turn(TABLE, None) == one_turn(TABLE, Pauses())], [True] * 2)

    def test_apart(self):
        other = Table(DAY, Run("x", "c", 1, 2, "c"), Stay("a", "d", 1, 2))
        found = one_turn(LOOPS + other)
        self.same(found.parts, (("a",), ("u", "v"), ("x",)))
        self.same([bool(found), isinstance(found, Turning), isinstance(found, OneTurn)], [False, True, False])


class TestErrors(Checks):
    def test_table(self):
        for value in any_but(lambda value: isinstance(value, Table)):
            self.raises(BadAsk("table"), stretches, value, value, value)
            self.raises(BadAsk("table"), lots, value, value, value)
            self.raises(BadAsk("table"), one_turn, value, value)
            self.raises(BadAsk("table"), one_turn, pauses=None, table=value)
        for value in ANY_VALUES:
            self.raises(BadAsk("table"), one_turn, Table(DAY), value)
        self.raises(BadAsk("table"), one_turn, Table(DAY))

    def test_pauses(self):
        for value in any_but(lambda value: value is None or isinstance(value, Pauses)):
            self.raises(BadAsk("pauses"), stretches, TABLE, value, value)
            self.raises(BadAsk("pauses"), lots, TABLE, value, value)
            self.raises(BadAsk("pauses"), one_turn, TABLE, value)

    def test_place_and_taken(self):
        for value in any_but(lambda value: value == "a") + ["c", "p"]:
            self.raises(NoPlace(value), stretches, TABLE, None, value)
            self.raises(NoPlace(value), lots, TABLE, None, [value, None])
            self.raises(NoPlace(value), lots, TABLE, None, ("a", "b", "a", value))
        for value in any_but(lambda value: isinstance(value, (list, tuple))) + ["ab", {"a": 1}]:
            self.raises(BadAsk("taken"), lots, TABLE, None, value)


class TestPapers(Checks):
    def test_made_of_any_values(self):
        self.check_paper(OneTurn, "number", "taken", "plan")
        self.check_paper(Apart, "parts")

    def test_truth_and_base(self):
        self.assertIs(bool(Turning()), False)
        for value in ANY_VALUES:
            one, parts = OneTurn(value, value, value), Apart(value)
            self.same([bool(one), bool(parts)], [True, False])
            self.assertTrue(isinstance(one, Turning) and isinstance(parts, Turning))
            self.same([one == parts, parts == one, isinstance(parts, OneTurn), isinstance(one, Apart)], [False] * 4)
        self.same(OneTurn(1, (), Plan(LOOPS, None, {"u": "v", "v": "u"})) == OneTurn(
            1, (), Plan(LOOPS, Pauses(), {"v": "u", "u": "v"})), True)
