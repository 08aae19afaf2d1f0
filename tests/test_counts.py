"""Points [2] and [13], counts.py: held against all plans of small tables, and against queues of each minute."""

import random
from itertools import islice
from math import factorial

from onelongturn.counts import all_plans, number_of, plan_at, plans_count
from onelongturn.days import Day
from onelongturn.errors import BadAsk, BadNumber, Spare
from onelongturn.fewest import fewest
from onelongturn.plans import Plan
from onelongturn.rules import FirstIn, LastIn, plan_by
from onelongturn.tables import Pauses, Table
from onelongturn.trips import Run, Stay
from tests.support import (
    BILLION_DAY, Checks, any_but, balanced_trips, every_plan, integer, lived_choices, plans_and_spares, small_case,
)

DAY = Day(24)
TABLE = Table(DAY, Run("p", "a", 6, 2, "b"), Run("q", "b", 9, 2, "a"), Run("r", "a", 12, 2, "b"),
              Run("s", "b", 15, 2, "a"))


def told_number(plan):
    """The number of a plan by the words of point [13]: its choices as digits, the first one worth most."""
    taken = {following: name for name, following in plan.follows.items()}
    rows = lived_choices(plan.table, plan.pauses, lambda names, leaving: names.index(taken[leaving]))
    number, worth = 0, 1
    for _, _, choice, many in reversed(rows):
        number += choice * worth
        worth *= many
    return number


def crowd(many, places, length):
    """So many trips of two clocks: at each place all are ready ahead of the first one that leaves."""
    trips = [Run("t" + chr(97 + at // 26) + chr(97 + at % 26), places[at % len(places)], length // 2 + at,
                 length // 4 + at // 3, places[at % len(places)]) for at in range(many)]
    return Table(Day(length), *trips)


class TestSmallTables(Checks):
    def test_each_plan_once_by_its_number(self):
        dice = random.Random(80)
        for _ in range(150):
            table, pauses = small_case(dice, 6)
            least = fewest(table, pauses).number
            lean = [plan for plan in every_plan(table, pauses) if plan.vehicles == least]
            self.same(plans_count(table, pauses), len(lean))
            plans = list(all_plans(table, pauses))
            self.assertEqual(len(plans), len(lean))
            for number, plan in enumerate(plans):
                self.assertTrue(plan in lean)
                self.same([number_of(plan), told_number(plan)], [number, number])
                self.same(plan_at(table, pauses, number) == plan, True)
            for plan in lean:
                self.assertTrue(plans[number_of(plan)] == plan)

    def test_drawn_plans_of_more_trips(self):
        dice = random.Random(81)
        for _ in range(150):
            table, pauses = small_case(dice, 16, "ab", 20)
            many = plans_count(table, pauses)
            for number in {0, many - 1, dice.randrange(many), dice.randrange(many)}:
                plan = plan_at(table, pauses, number)
                self.same([number_of(plan), told_number(plan)], [number, number])
                self.same(plan.vehicles, fewest(table, pauses).number)
            self.same(number_of(plan_by(table, pauses, FirstIn())), 0)
            self.same(number_of(plan_by(table, pauses, LastIn())), many - 1)

    def test_the_first_choice_is_worth_most(self):
        table = Table(DAY, *[Run(sign, "a", 12 + at, 6 + at, "a") for at, sign in enumerate("wxyz")])
        self.same(plans_count(table, None), 24)
        ways = [tuple(plan.follows.items()) for plan in all_plans(table, None)]
        taken = [tuple(sorted(follows, key=lambda pair: pair[1])) for follows in ways]
        orders = ["".join(pair[0] for pair in pairs) for pairs in taken]
        self.same(orders, sorted(orders))
        self.same([orders[0], orders[5], orders[6], orders[23]], ["wxyz", "wzyx", "xwyz", "zyxw"])

    def test_places_ascend(self):
        trips = [Run(sign, place, at + 12, 6, place) for place in "ab" for at, sign in enumerate((place, place + "z"))]
        table = Table(DAY, *trips)
        self.same([plan["a"] + plan["b"] for plan in all_plans(table, None)], ["ab", "abz", "azb", "azbz"])

    def test_a_table_without_trips(self):
        empty = Table(DAY)
        self.same([plans_count(empty, None), number_of(plan_at(empty, None, 0))], [1, 0])
        self.same([plan == Plan(empty, Pauses(a=2), {}) for plan in all_plans(empty, Pauses(a=2))], [True])
        self.raises(BadNumber(1), plan_at, empty, None, 1)
        self.raises(BadNumber(-1), plan_at, empty, None, -1)


class TestBounds(Checks):
    def test_as_many_plans_as_forty_can_be_ordered(self):
        table = crowd(40, "a", BILLION_DAY)
        many = plans_count(table, None)
        self.same([many, len(str(many))], [factorial(40), 48])
        dice = random.Random(82)
        for number in (0, 1, many // 2, many - 1, dice.randrange(many), dice.randrange(many)):
            plan = plan_at(table, None, number)
            self.same([number_of(plan), plan.vehicles], [number, fewest(table).number])
        self.raises(BadNumber(many), plan_at, table, None, many)
        self.same(plan_at(table, None, many - 1) == plan_by(table, None, LastIn()), True)
        first = list(islice(all_plans(table, None), 4))
        self.same([number_of(plan) for plan in first], [0, 1, 2, 3])

    def test_eight_places(self):
        table = crowd(40, "abcdefgh", BILLION_DAY)
        self.same(plans_count(table, Pauses(a=10 ** 12)), factorial(5) ** 8)
        number = factorial(5) ** 8 - 120 * 7 - 3
        self.same(number_of(plan_at(table, Pauses(a=10 ** 12), number)), number)

    def test_drawn_tables(self):
        dice = random.Random(83)
        for places in ("a", "ab", "abcdefgh"):
            table = Table(Day(BILLION_DAY), *balanced_trips(dice, BILLION_DAY, 40, places, BILLION_DAY))
            pauses = Pauses.of({place: dice.choice((10 ** 12, dice.randint(0, 10 ** 12))) for place in places})
            many = plans_count(table, pauses)
            for number in (0, many - 1, dice.randrange(many)):
                self.same(number_of(plan_at(table=table, pauses=pauses, number=number)), number)
            self.same([number_of(plan) for plan in islice(all_plans(table, pauses), 3)], list(range(min(3, many))))


class TestErrors(Checks):
    def test_table_and_pauses(self):
        calls = [plans_count, lambda table, pauses: plan_at(table, pauses, None), lambda table, pauses: next(
            all_plans(table, pauses)), lambda table, pauses: next(all_plans(pauses=pauses, table=table))]
        for call in calls:
            for value in any_but(lambda value: isinstance(value, Table)):
                self.raises(BadAsk("table"), call, value, value)
            for value in any_but(lambda value: value is None or isinstance(value, Pauses)):
                self.raises(BadAsk("pauses"), call, TABLE, value)
        self.raises(BadAsk("table"), plan_at, number=None, pauses=3, table=3)
        self.raises(BadAsk("pauses"), plans_count, pauses=3, table=TABLE)

    def test_numbers(self):
        pauses = Pauses(a=2)
        for value in any_but(lambda value: integer(value) and 0 <= value < 2) + [2, -1, -2, 10 ** 60, "0", (0,)]:
            self.raises(BadNumber(value), plan_at, TABLE, pauses, value)
        for value in (True, False):
            self.raises(BadNumber(value), plan_at, TABLE, pauses, number=value)

    def test_plan(self):
        for value in any_but(lambda value: isinstance(value, Plan)):
            self.raises(BadAsk("plan"), number_of, value)
            self.raises(BadAsk("plan"), number_of, plan=value)

    def test_spare(self):
        for plan, spare in plans_and_spares(84):
            if spare:
                self.raises(Spare(spare[0]), number_of, plan)
            else:
                self.same(number_of(plan), told_number(plan))

    def test_none_is_no_pauses(self):
        table = TABLE + Table(DAY, Stay("w", "a", 3, 1))
        self.same(plans_count(table, None), plans_count(table, Pauses()))
        self.same(plan_at(table, None, 0).pauses == Pauses(), True)
