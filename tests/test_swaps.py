"""Points [2] and [12], swaps.py: swaps done one behind the other, and held against a search on small tables."""

import random

from onelongturn.counts import plan_at, plans_count
from onelongturn.days import Day
from onelongturn.errors import BadAsk, Spare, Unlike
from onelongturn.plans import Plan
from onelongturn.rules import FirstIn, LastIn, plan_by
from onelongturn.swaps import Merged, fewest_swaps, merged, swaps_to
from onelongturn.tables import Pauses, Table
from onelongturn.trips import Run, Stay
from tests.support import (
    BILLION_DAY, Checks, any_but, balanced_trips, every_plan, lived_lots, plans_and_spares, random_plan, small_case,
)

DAY = Day(24)
TABLE = Table(DAY, Run("p", "a", 6, 2, "b"), Run("q", "b", 9, 2, "a"), Run("r", "a", 12, 2, "b"),
              Run("s", "b", 15, 2, "a"))
RING = {"p": "q", "q": "r", "r": "s", "s": "p"}


def drawn_lean_plan(dice, table, pauses):
    return plan_at(table, pauses, dice.randrange(plans_count(table, pauses)))


def steps_between(plans, start):
    """The least number of swaps from a plan to each of all plans, found by going on from plan to plan."""
    told = {tuple(sorted(plan.follows.items())): plan for plan in plans}
    far = {tuple(sorted(start.follows.items())): 0}
    rows = [start]
    for plan in rows:
        here = far[tuple(sorted(plan.follows.items()))]
        for one in plan.table.names:
            for other in plan.table.names:
                if one < other and plan.table[one].goal == plan.table[other].goal:
                    key = tuple(sorted(plan.swapped(one, other).follows.items()))
                    if key not in far:
                        far[key] = here + 1
                        rows.append(told[key])
    return far


class TestMerged(Checks):
    def check_merged(self, plan, lots):
        found = merged(plan)
        self.same([type(found), type(found.swaps)], [Merged, tuple])
        self.same(len(found.swaps), len(plan) - lots)
        now = plan
        for pair in found.swaps:
            one, other = pair
            self.assertIs(type(pair), tuple)
            turns = [[turn for turn in now.turns if name in turn] for name in pair]
            self.assertTrue(now.meet(one, other) and turns[0] != turns[1])
            now = now.swapped(one, other)
            self.same(now.vehicles, plan.vehicles)
        self.same(now == found.plan, True)
        self.same(len(now), lots)

    def test_drawn_plans(self):
        dice = random.Random(90)
        joined = set()
        for _ in range(400):
            table, pauses = small_case(dice, 9, "abc", 14)
            lots = lived_lots(table, pauses)
            plan = drawn_lean_plan(dice, table, pauses)
            joined.add((len(plan) > len(lots), len(lots) > 1))
            self.check_merged(plan, len(lots))
        self.assertEqual(joined, {(False, False), (False, True), (True, False), (True, True)})

    def test_no_plan_without_spare_vehicles_has_fewer_turns(self):
        dice = random.Random(91)
        for _ in range(60):
            table, pauses = small_case(dice, 6)
            plans = every_plan(table, pauses)
            least = min(plan.vehicles for plan in plans)
            fewest_turns = min(len(plan) for plan in plans if plan.vehicles == least)
            self.check_merged(drawn_lean_plan(dice, table, pauses), fewest_turns)

    def test_forty_trips_on_the_longest_day(self):
        dice = random.Random(92)
        trips = [Run("t" + chr(97 + at // 26) + chr(97 + at % 26), "a", BILLION_DAY // 2 + at, BILLION_DAY // 2, "a")
                 for at in range(40)]
        table = Table(Day(BILLION_DAY), *trips)
        lean = Plan(table, None, {name: name for name in table.names})
        self.check_merged(Plan(table, Pauses(a=BILLION_DAY // 2), lean.follows), 40)
        self.check_merged(Plan(table, Pauses(a=10 ** 12), lean.follows), 1)
        for places in ("a", "abcdefgh"):
            table = Table(Day(BILLION_DAY), *balanced_trips(dice, BILLION_DAY, 40, places, BILLION_DAY))
            plan = plan_by(table, Pauses(a=10 ** 12), LastIn())
            found = merged(plan)
            self.same([found.plan.vehicles, len(merged(found.plan).swaps)], [plan.vehicles, 0])

    def test_a_table_without_trips(self):
        plan = Plan(Table(DAY), None, {})
        self.same([merged(plan).swaps, merged(plan).plan == plan], [(), True])
        self.same([fewest_swaps(plan, plan), swaps_to(plan, plan)], [0, ()])

    def test_trips_that_meet_in_a_moment_alone(self):
        table = Table(DAY, Run("x", "a", 6, 24, "a"), Stay("y", "a", 6, 24))
        plan = Plan(table, None, {"x": "x", "y": "y"})
        self.check_merged(plan, 1)
        self.same(merged(plan=plan).plan.turns, (("x", "y"),))

    def test_spare(self):
        for plan, spare in plans_and_spares(93):
            if spare:
                self.raises(Spare(spare[0]), merged, plan)
            else:
                self.check_merged(plan, len(lived_lots(plan.table, plan.pauses)))

    def test_no_plan(self):
        for value in any_but(lambda value: isinstance(value, Plan)):
            self.raises(BadAsk("plan"), merged, value)
            self.raises(BadAsk("plan"), merged, plan=value)

    def test_paper(self):
        self.check_paper(Merged, "swaps", "plan")


class TestSwapsTo(Checks):
    def check_way(self, one, other):
        pairs = swaps_to(one, other)
        self.assertIs(type(pairs), tuple)
        now = one
        for pair in pairs:
            self.assertIs(type(pair), tuple)
            self.same(now.table[pair[0]].goal, now.table[pair[1]].goal)
            now = now.swapped(*pair)
        self.same(now == other, True)
        self.same(fewest_swaps(one, other), len(pairs))
        return len(pairs)

    def test_against_a_search(self):
        dice = random.Random(94)
        for _ in range(50):
            table, pauses = small_case(dice, 5)
            plans = every_plan(table, pauses)
            start = dice.choice(plans)
            far = steps_between(plans, start)
            for plan in plans:
                self.same(self.check_way(start, plan), far[tuple(sorted(plan.follows.items()))])

    def test_drawn_plans_of_many_trips(self):
        dice = random.Random(95)
        for places in ("a", "ab", "abcdefgh"):
            table = Table(Day(BILLION_DAY), *balanced_trips(dice, BILLION_DAY, 40, places, BILLION_DAY))
            for _ in range(5):
                one, other = (random_plan(dice, table, Pauses(a=5)) for _ in range(2))
                names = {following: name for name, following in other.follows.items()}
                rings, seen = 0, set()
                for name in table.names:
                    rings += name not in seen
                    while name not in seen:
                        seen.add(name)
                        name = names[one[name]]
                self.same(self.check_way(one, other), 40 - rings)
                self.same(self.check_way(other, one), 40 - rings)
                self.same(self.check_way(one, one), 0)

    def test_errors_in_their_order(self):
        plan = Plan(TABLE, Pauses(a=2), RING)
        for call in (fewest_swaps, swaps_to):
            for value in any_but(lambda value: isinstance(value, Plan)):
                self.raises(BadAsk("one"), call, value, value)
                self.raises(BadAsk("one"), call, other=plan, one=value)
                self.raises(BadAsk("other"), call, plan, value)
                self.raises(BadAsk("other"), call, other=value, one=plan)
            self.raises(Unlike("table"), call, plan, Plan(TABLE.moved(1), None, RING))
            self.raises(Unlike("table"), call, plan, Plan(TABLE.scaled(2), Pauses(a=2), RING))
            self.raises(Unlike("table"), call, Plan(Table(DAY), None, {}), plan)
            self.raises(Unlike("pauses"), call, plan, Plan(TABLE, None, RING))
            self.raises(Unlike("pauses"), call, plan, Plan(TABLE, Pauses(a=2, c=1), RING))
            self.assertTrue(call(one=plan, other=Plan(Table.of(DAY, list(TABLE)), Pauses(a=2), RING)) in (0, ()))

    def test_nothing_changes(self):
        one, other = plan_by(TABLE, Pauses(a=2), FirstIn()), plan_by(TABLE, Pauses(a=2), LastIn())
        told = one.follows, other.follows
        fewest_swaps(one, other), swaps_to(one, other), merged(one), merged(other)
        self.same((one.follows, other.follows), told)
