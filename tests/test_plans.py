"""Points [2], [6], [7] and [12], plans.py: held against plain sums on short days."""

import random
from itertools import islice, permutations

from onelongturn.curves import pausing, stands, under_way
from onelongturn.days import Day
from onelongturn.errors import BadAsk, BadPlan, NoPlace, NoTrip, Unlike
from onelongturn.plans import Plan
from onelongturn.tables import Pauses, Table
from onelongturn.trips import Run, Stay
from tests.support import BILLION_DAY, Checks, any_but, balanced_trips, random_plan

DAY = Day(24)
TABLE = Table(DAY, Run("p", "a", 6, 2, "b"), Run("q", "b", 9, 2, "a"), Run("r", "a", 12, 2, "b"),
              Run("s", "b", 15, 2, "a"))
RING = {"p": "q", "q": "r", "r": "s", "s": "p"}


def random_plans(seed, many):
    dice = random.Random(seed)
    for _ in range(many):
        length = dice.randint(1, 9)
        places = "abc"[:dice.randint(1, 3)]
        table = Table(Day(length), *balanced_trips(dice, length, dice.randint(1, 7), places, 3 * length))
        pauses = Pauses.of({place: dice.randint(0, 3 * length) for place in "abcd" if dice.random() < 0.6})
        yield dice, random_plan(dice, table, pauses)


def ready_of(plan, word):
    """When a trip is ready, told by point [5] alone."""
    trip = plan.table[word]
    return trip.leaves + trip.takes + (plan.pauses[trip.goal] if isinstance(trip, Run) else 0)


def wait_of(plan, word):
    length = plan.table.day.length
    leaves = plan.table[plan.follows[word]].leaves
    return next(wait for wait in range(length) if (ready_of(plan, word) + wait) % length == leaves)


def ring_of(plan, word):
    ring = [word]
    while plan.follows[ring[-1]] != word:
        ring.append(plan.follows[ring[-1]])
    return ring


class TestPlan(Checks):
    def test_waits_turns_and_days(self):
        for _, plan in random_plans(20, 300):
            length = plan.table.day.length
            rings = {}
            for word in plan.table.names:
                self.same([plan[word], plan.wait(word)], [plan.follows[word], wait_of(plan, word)])
                ring = ring_of(plan, word)
                minutes = sum(ready_of(plan, one) - plan.table[one].leaves + wait_of(plan, one) for one in ring)
                self.same([minutes % length, plan.days(word)], [0, minutes // length])
                least = ring.index(min(ring))
                rings[tuple(ring[least:] + ring[:least])] = minutes // length
            self.same(plan.turns, tuple(sorted(rings)))
            self.same([list(plan), len(plan), plan.is_one], [sorted(rings), len(rings), len(rings) == 1])
            self.same(plan.vehicles, sum(rings.values()))

    def test_vehicles_are_all_that_are_somewhere(self):
        for _, plan in random_plans(21, 200):
            told = under_way(plan.table)
            for place in plan.table.places:
                told = told + pausing(plan.table, plan.pauses, place) + plan.curve(place)
            self.same(told.steps, ((0, plan.vehicles),))

    def test_the_curve_is_the_least_one_and_the_spare_vehicles(self):
        spares = set()
        for _, plan in random_plans(22, 200):
            for place in plan.table.places:
                spare = plan.spare(place)
                spares.add(spare)
                self.same(plan.curve(place) == stands(plan.table, plan.pauses, place) + spare, True)
                self.same(plan.curve(place=place).least, plan.spare(place=place))
        self.assertTrue({0, 1, 2} <= spares)

    def test_one_with_the_fewest_vehicles_has_no_spare_ones(self):
        dice = random.Random(23)
        for _ in range(60):
            length = dice.randint(1, 9)
            table = Table(Day(length), *balanced_trips(dice, length, dice.randint(1, 5), "ab", 2 * length))
            pauses = Pauses(a=dice.randint(0, 9), b=dice.randint(0, 9))
            plans = []
            for order in permutations(table.names):
                follows = dict(zip(table.names, order))
                if all(table[word].goal == table[follows[word]].start for word in follows):
                    plans.append(Plan(table, pauses, follows))
            fewest = min(plan.vehicles for plan in plans)
            for plan in plans:
                spare = sum(plan.spare(place) for place in table.places)
                self.same([plan.vehicles == fewest, plan.vehicles - fewest], [spare == 0, spare])

    def test_walk(self):
        for _, plan in random_plans(24, 100):
            length = plan.table.day.length
            for word in plan.table.names:
                steps = list(islice(plan.walk(word), len(ring_of(plan, word)) + 1))
                self.same(steps[0][1], plan.table[word].leaves)
                self.same(steps[-1][0], word)
                self.same(steps[-1][1] - steps[0][1], plan.days(word) * length)
                for (one, leaving, ready), (after, later, _) in zip(steps, steps[1:]):
                    self.same(ready, leaving - plan.table[one].leaves + ready_of(plan, one))
                    self.same([after, later - ready], [plan[one], plan.wait(one)])
                    self.same(leaving % length, plan.table[one].leaves)
        plan = Plan(TABLE, None, RING)
        self.same(next(plan.walk(name="r")), ("r", 12, 14))
        self.same([row[0] for row in islice(plan.walk("s"), 9)], list("spqrspqrs"))

    def test_a_table_without_trips(self):
        plan = Plan(Table(DAY), Pauses(a=2), {})
        self.same([plan.vehicles, plan.turns, len(plan), list(plan), plan.is_one, plan.follows],
                  [0, (), 0, [], False, {}])
        self.raises(NoTrip("p"), lambda: plan["p"])
        self.raises(NoPlace("a"), plan.curve, "a")

    def test_long_days_and_pauses(self):
        day = Day(BILLION_DAY)
        table = Table(day, Run("r", "a", BILLION_DAY - 1, BILLION_DAY, "a"), Stay("w", "a", 0, 1))
        plan = Plan(table, Pauses(a=BILLION_DAY), {"r": "w", "w": "r"})
        self.same([plan.wait("r"), plan.wait("w"), plan.vehicles], [1, BILLION_DAY - 2, 3])
        self.same(plan.curve("a").steps, ((0, 0), (1, 1)))
        self.same(list(islice(plan.walk("r"), 3))[2], ("r", 4 * BILLION_DAY - 1, 6 * BILLION_DAY - 1))
        alone = Plan(Table(Day(1), Run("r", "a", 0, BILLION_DAY, "a")), Pauses(a=BILLION_DAY), {"r": "r"})
        self.same([alone.vehicles, alone.wait("r"), alone.spare("a")], [2 * BILLION_DAY, 0, 0])

    def test_many_trips(self):
        dice = random.Random(25)
        table = Table(Day(BILLION_DAY), *balanced_trips(dice, BILLION_DAY, 40, "abcdefgh", BILLION_DAY))
        plan = random_plan(dice, table, Pauses.of({place: BILLION_DAY for place in "abcdefgh"}))
        self.same(sum(len(turn) for turn in plan), 40)
        self.same(plan.vehicles, sum(plan.days(turn[0]) for turn in plan.turns))


class TestSwaps(Checks):
    def test_meet(self):
        told = set()
        for _, plan in random_plans(26, 200):
            length = plan.table.day.length
            moments = {}
            for word in plan.table.names:
                ready = ready_of(plan, word)
                moments[word] = {x % length for x in range(ready, ready + wait_of(plan, word) + 1)}
            for one, other in permutations(plan.table.names, 2):
                if plan.table[one].goal == plan.table[other].goal:
                    self.same(plan.meet(one, other), bool(moments[one] & moments[other]))
                    told.add(plan.meet(one=one, other=other))
        self.assertEqual(told, {True, False})

    def test_swapped(self):
        changes = set()
        for _, plan in random_plans(27, 200):
            before = plan.follows
            lean = not any(plan.spare(place) for place in plan.table.places)
            for one, other in permutations(plan.table.names, 2):
                if plan.table[one].goal == plan.table[other].goal:
                    swapped = plan.swapped(one=one, other=other)
                    self.same(swapped.follows, {**before, one: before[other], other: before[one]})
                    self.assertTrue(swapped.table == plan.table and swapped.pauses == plan.pauses)
                    changes.add(swapped.vehicles - plan.vehicles)
                    if lean:
                        self.same(swapped.vehicles == plan.vehicles, plan.meet(one, other))
            self.same(plan.follows, before)
        self.assertEqual(changes, {-1, 0, 1})

    def test_errors_in_their_order(self):
        plan = Plan(TABLE, None, RING)
        for call in (plan.meet, plan.swapped):
            for value in any_but(lambda value: value in ("p", "q", "r", "s")):
                self.raises(NoTrip(value), call, value, value)
                self.raises(NoTrip(value), call, value, "p")
                self.raises(NoTrip(value), call, "p", value)
            self.raises(Unlike("trip"), call, "p", "p")
            self.raises(Unlike("place"), call, "p", "q")
        self.same(plan.follows, RING)


class TestMaking(Checks):
    def test_attributes(self):
        plan = Plan(TABLE, None, RING)
        self.assertIs(plan.table, TABLE)
        self.same([type(plan.pauses), plan.pauses == Pauses(), plan.follows], [Pauses, True, RING])
        plan = Plan(follows=RING, pauses=Pauses(b=3), table=TABLE)
        self.same(plan.pauses == Pauses(b=3), True)

    def test_errors_in_their_order(self):
        for value in any_but(lambda value: isinstance(value, Table)):
            self.raises(BadAsk("table"), Plan, value, value, value)
        for value in any_but(lambda value: value is None or isinstance(value, Pauses)):
            self.raises(BadAsk("pauses"), Plan, TABLE, value, value)
        for value in any_but(lambda value: False):
            self.raises(BadPlan(None), Plan, TABLE, None, value)
            self.raises(BadPlan(None), Plan, TABLE, None, {**RING, "p": value})
            self.raises(BadPlan(None), Plan, TABLE, None, {"p": value, "q": "p", "r": value, "s": value})

    def test_no_plan_at_all(self):
        for follows in (
            {}, {"p": "q", "q": "r", "r": "s"}, {**RING, "t": "p"}, {**RING, "p": "t"}, {**RING, "p": "r"},
            {"p": "q", "q": "p", "r": "q", "s": "p"}, {**RING, None: "p"}, {**RING, 1: 2},
            {"p": "q", "q": "r", "r": "s", "t": "p"}, {"p": "q", "q": "r", "r": "s", 3: "p"},
        ):
            self.raises(BadPlan(None), Plan, TABLE, None, follows)
        self.raises(BadPlan(None), Plan, Table(DAY), None, {"p": "p"})
        self.raises(BadPlan(None), Plan, Table(DAY), None, [])

    def test_trips_that_start_elsewhere(self):
        self.raises(BadPlan("p"), Plan, TABLE, None, {"p": "p", "q": "q", "r": "r", "s": "s"})
        self.raises(BadPlan("q"), Plan, TABLE, None, {"p": "q", "q": "s", "r": "p", "s": "r"})
        self.raises(BadPlan("r"), Plan, TABLE, None, {"p": "q", "q": "p", "r": "r", "s": "s"})

    def test_a_dict_that_changes_later(self):
        follows = dict(RING)
        plan = Plan(TABLE, None, follows)
        follows["p"] = "s"
        follows["x"] = "y"
        self.same([plan.follows, plan["p"]], [RING, "q"])
        told = plan.follows
        told["p"] = "s"
        told.clear()
        self.same([plan.follows, plan.turns], [RING, (("p", "q", "r", "s"),)])

    def test_names_and_places(self):
        plan = Plan(TABLE, None, RING)
        for value in any_but(lambda value: value in ("p", "q", "r", "s")) + ["t", "b"]:
            self.raises(NoTrip(value), lambda: plan[value])
            self.raises(NoTrip(value), plan.wait, value)
            self.raises(NoTrip(value), plan.days, name=value)
            self.raises(NoTrip(value), lambda: next(plan.walk(value)))
        for value in any_but(lambda value: value in ("a", "b")) + ["c", "p"]:
            self.raises(NoPlace(value), plan.curve, value)
            self.raises(NoPlace(value), plan.spare, place=value)

    def test_equal(self):
        plan = Plan(TABLE, Pauses(a=2), RING)
        self.same([plan == Plan(TABLE, Pauses.of({"a": 2}), dict(reversed(RING.items()))), plan == plan], [True, True])
        others = [
            Plan(TABLE, None, RING), Plan(TABLE, Pauses(a=2, c=1), RING), plan.swapped("q", "s"),
            Plan(TABLE.moved(1), Pauses(a=2), RING), Plan(TABLE.scaled(2), Pauses(a=2), RING),
        ]
        for value in any_but(lambda value: False) + others + [RING]:
            self.same([plan == value, plan != value], [False, True])
        self.same(plan.swapped("q", "s").swapped("s", "q") == plan, True)
