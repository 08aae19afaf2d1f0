"""Points [2] and [13], rules.py: held against queues that are kept minute by minute."""

import random

from onelongturn.days import Day
from onelongturn.errors import BadAsk, BadName, Twice
from onelongturn.fewest import fewest
from onelongturn.plans import Plan
from onelongturn.rules import FirstIn, LastIn, Named, Rule, plan_by
from onelongturn.tables import Pauses, Table
from onelongturn.trips import Run, Stay
from tests.support import ANY_VALUES, BILLION_DAY, Checks, any_but, balanced_trips, lived_choices, name, small_case

DAY = Day(24)


def rules_of(dice, table):
    some = dice.sample(table.names, dice.randint(0, len(table)))
    return [FirstIn(), LastIn(), Named(*some), Named(*reversed(table.names)), Named("other", *some)]


class TestRules(Checks):
    def test_first_and_last(self):
        for row in (("p",), ("q", "s"), ("c", "a", "b"), tuple("hgfedcba")):
            self.same([FirstIn()(row), LastIn()(row)], [0, len(row) - 1])

    def test_named(self):
        row = ("q", "s", "a")
        for names, wanted in (
            ((), 0), (("q",), 0), (("s",), 1), (("a",), 2), (("x",), 0), (("x", "y"), 0), (("x", "s"), 1),
            (("s", "q"), 1), (("q", "s"), 0), (("a", "s", "q"), 2), (("x", "a", "y", "s"), 2),
        ):
            self.same(Named(*names)(row), wanted)
        self.same([Named("b")(("a",)), Named("a")(("a",)), Named()(("b", "a"))], [0, 0, 0])

    def test_named_takes_the_first_of_equal_names(self):
        self.same([Named("s")(("-", "s", "q", "s")), Named("x")(("-", "-"))], [1, 0])

    def test_names(self):
        self.same([Named().names, Named("b", "a").names, Named("abcdefgh").names], [(), ("b", "a"), ("abcdefgh",)])

    def test_words_and_the_base(self):
        self.same([FirstIn.WORD, LastIn.WORD, Named.WORD], ["first", "last", "named"])
        self.same([FirstIn().WORD, LastIn().WORD, Named("a").WORD], ["first", "last", "named"])
        for rule in (FirstIn(), LastIn(), Named(), Named("a")):
            self.assertIsInstance(rule, Rule)
        self.assertFalse(isinstance(FirstIn(), (LastIn, Named)) or isinstance(Named(), (FirstIn, LastIn)))

    def test_equal(self):
        makers = [FirstIn, LastIn, Named, lambda: Named("a"), lambda: Named("a", "b"), lambda: Named("b", "a")]
        for at, one in enumerate(makers):
            for step, other in enumerate(makers):
                self.same([one() == other(), one() != other()], [at == step, at != step])
            for value in any_but(lambda value: isinstance(value, Rule)) + [("a",), "first"]:
                self.same([one() == value, one() != value], [False, True])

    def test_wrong_names(self):
        for value in any_but(name):
            self.raises(BadName(value), Named, value)
            self.raises(BadName(value), Named, "a", "a", value, None)
            self.raises(BadName(value), Named, value, value)
        self.raises(BadName(["a"]), Named, ["a"])
        self.raises(Twice("a"), Named, "a", "a")
        self.raises(Twice("b"), Named, "a", "b", "b", "a")
        self.raises(Twice("a"), Named, "a", "b", "c", "a", "b")
        self.raises(Twice("b"), Named, "a", "b", "c", "b", "a", "c")


class TestPlanBy(Checks):
    def test_against_queues_kept_minute_by_minute(self):
        dice = random.Random(70)
        for _ in range(300):
            table, pauses = small_case(dice, 8)
            for rule in rules_of(dice, table):
                plan = plan_by(table, pauses, rule)
                rows = lived_choices(table, pauses, lambda names, leaving: rule(names))
                self.same(plan.follows, {taken: leaving for leaving, taken, _, _ in rows})
                self.same(plan.vehicles, fewest(table, pauses).number)
                self.assertTrue(plan.table == table and plan.pauses == (pauses or Pauses()))

    def test_rows_that_the_rule_is_called_with(self):
        dice = random.Random(71)
        for _ in range(100):
            table, pauses = small_case(dice, 8)
            seen = []

            class Noting(Rule):
                def __call__(self, names):
                    seen.append(names)
                    return len(names) // 2

            plan_by(table, pauses, Noting())
            wanted = []
            lived_choices(table, pauses, lambda names, leaving: (wanted.append(names), len(names) // 2)[1])
            self.same(seen, wanted)

    def test_several_in_one_minute_by_name(self):
        trips = [Run("d", "a", 3, 2, "a"), Run("b", "a", 3, 2, "a"), Run("c", "a", 5, 4, "a"), Stay("a", "a", 5, 4)]
        table = Table(DAY, *trips)
        self.same(plan_by(table, None, FirstIn()).follows, {"b": "a", "d": "c", "a": "b", "c": "d"})
        self.same(plan_by(table, None, LastIn()).follows, {"d": "a", "b": "c", "c": "b", "a": "d"})
        self.same(plan_by(table, None, Named("d", "c")).follows, {"d": "a", "b": "c", "c": "b", "a": "d"})

    def test_forty_trips_on_the_longest_day(self):
        dice = random.Random(72)
        for places in ("a", "ab", "abcdefgh"):
            table = Table(Day(BILLION_DAY), *balanced_trips(dice, BILLION_DAY, 40, places, BILLION_DAY))
            pauses = Pauses.of({place: dice.choice((10 ** 12, dice.randint(0, 10 ** 12))) for place in places})
            for rule in rules_of(dice, table):
                plan = plan_by(table=table, pauses=pauses, rule=rule)
                self.same(plan.vehicles, fewest(table, pauses).number)

    def test_a_table_without_trips(self):
        self.same(plan_by(Table(DAY), None, LastIn()) == Plan(Table(DAY), None, {}), True)

    def test_errors_in_their_order(self):
        for value in any_but(lambda value: isinstance(value, Table)):
            self.raises(BadAsk("table"), plan_by, value, value, value)
        for value in any_but(lambda value: value is None or isinstance(value, Pauses)):
            self.raises(BadAsk("pauses"), plan_by, Table(DAY), value, None)
            self.raises(BadAsk("pauses"), plan_by, rule=value, pauses=value, table=Table(DAY))
        for value in [value for value in ANY_VALUES if not isinstance(value, Rule)] + ["first", ("a",)]:
            self.raises(BadAsk("rule"), plan_by, Table(DAY), None, value)
