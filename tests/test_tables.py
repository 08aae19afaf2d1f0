"""Points [2], [4] and [5], tables.py."""

import random
from itertools import product

from onelongturn.days import Day
from onelongturn.errors import (BadAsk, BadName, BadNumber, BadPauses, BadTable, BadText, NoTrip, OutOfDay, TooMany,
                                Twice, Unbalanced, Unlike)
from onelongturn.tables import Pauses, Table
from onelongturn.trips import Run, Stay, Trip
from tests.support import ANY_VALUES, Checks, any_but, balanced_trips, integer, name, number

TOP = 10 ** 12
DAY = Day(24)
P, Q = Run("p", "a", 6, 2, "b"), Run("q", "b", 9, 2, "a")
R, S = Run("r", "a", 12, 2, "b"), Run("s", "b", 15, 2, "a")
WORDS = [a + b for a in "abcdefgh" for b in "abcdef"]


def told(table):
    return [str(table.day), *[str(trip) for trip in table]]


def stays(many, place="a"):
    return [Stay(word, place, 0, 1) for word in WORDS[:many]]


class TestMakingTables(Checks):
    def test_attributes(self):
        for table in (Table(DAY, S, Q, R, P), Table.of(DAY, [S, Q, R, P]), Table.of(trips=(P, Q, R, S), day=DAY)):
            self.same([table.names, table.places, len(table)], [("p", "q", "r", "s"), ("a", "b"), 4])
            self.assertTrue(table.day == DAY)
            self.same(told(table), ["24", str(P), str(Q), str(R), str(S)])
        for table in (Table(DAY), Table.of(DAY, []), Table.of(DAY, ())):
            self.same([table.names, table.places, len(table), list(table)], [(), (), 0, []])

    def test_places_of_starts_and_goals(self):
        table = Table(DAY, Run("x", "d", 0, 1, "c"), Run("y", "c", 0, 1, "d"), Stay("z", "b", 0, 1))
        self.same(table.places, ("b", "c", "d"))

    def test_wrong_kinds(self):
        for value in any_but(lambda value: isinstance(value, Day)):
            self.raises(BadAsk("day"), Table, value)
            self.raises(BadAsk("day"), Table, value, value, P, P)
            self.raises(BadAsk("day"), Table.of, value, value)
            self.raises(BadAsk("day"), Table.of, value, [P])
        for value in any_but(lambda value: isinstance(value, (list, tuple))):
            self.raises(BadAsk("trips"), Table.of, DAY, value)
        for value in any_but(lambda value: isinstance(value, Trip)):
            self.raises(BadTable(0), Table, DAY, value)
            self.raises(BadTable(2), Table, DAY, P, P, value, value)
            self.raises(BadTable(1), Table.of, DAY, [P, value])
            self.raises(BadTable(1), Table.of, DAY, (P, value, P))

    def test_each_reason_alone(self):
        self.raises(Twice("p"), Table, DAY, P, Q, P, Q)
        self.raises(Twice("w"), Table, DAY, Stay("w", "a", 1, 1), Stay("w", "b", 2, 2))
        self.raises(TooMany("trips", 40), Table, DAY, *stays(41))
        self.raises(OutOfDay("w"), Table, DAY, Stay("x", "a", 25, 1), Stay("w", "a", 24, 1))
        self.raises(TooMany("places", 8), Table, DAY, *[Stay(word, word, 0, 1) for word in "abcdefghi"])
        self.raises(Unbalanced("a"), Table, DAY, P)
        self.raises(Unbalanced("b"), Table, DAY, P, Run("q", "b", 9, 2, "c"), Run("r", "b", 9, 2, "a"))
        self.raises(Unbalanced("c"), Table, DAY, Stay("w", "a", 0, 1), Run("x", "d", 0, 1, "c"))

    def test_the_least_names(self):
        two = [Stay(word, "a", 30, 1) for word in ("m", "k", "m", "k", "a")]
        self.raises(Twice("k"), Table, DAY, *two)
        self.raises(OutOfDay("a"), Table, DAY, *two[-3:])

    def test_just_at_the_bounds(self):
        self.same(len(Table(DAY, *stays(40))), 40)
        self.same(Table(DAY, *[Stay(word, word, 23, TOP) for word in "abcdefgh"]).places, tuple("abcdefgh"))
        trips = balanced_trips(random.Random(3), TOP, 40, "abcdefgh", TOP)
        self.same(len(Table(Day(TOP), *trips)), 40)
        self.raises(OutOfDay("w"), Table, Day(TOP), Stay("w", "a", TOP, 1))

    def test_several_reasons_in_their_order(self):
        places = [Stay(word, word, 24, 1) for word in WORDS[:41]]
        alone = Run("zz", "a", 24, 1, "b")
        self.raises(BadTable(43), Table, DAY, alone, *places, alone, 7)
        self.raises(Twice("zz"), Table, DAY, alone, *places, alone)
        self.raises(TooMany("trips", 40), Table, DAY, alone, *places)
        self.raises(OutOfDay("aa"), Table, DAY, alone, *places[:39])
        self.raises(TooMany("places", 8), Table, Day(25), alone, *places[:39])
        self.raises(Unbalanced("a"), Table, Day(25), alone, *places[:6])

    def test_a_list_that_changes_later(self):
        trips = [P, Q]
        table = Table.of(DAY, trips)
        trips.append(R)
        trips[0] = S
        self.same(table.names, ("p", "q"))
        rows = list(table)
        rows.clear()
        self.same(len(table), 2)


class TestAskingTables(Checks):
    def setUp(self):
        self.table = Table(DAY, P, Q, R, S)
        self.told = told(self.table)

    def tearDown(self):
        self.same(told(self.table), self.told)
        self.same([self.table.names, self.table.places], [("p", "q", "r", "s"), ("a", "b")])

    def test_trips_by_name(self):
        self.assertIs(self.table["p"], P)
        for value in any_but(lambda value: value in ("p", "q", "r", "s")) + ["t", "pp", P]:
            self.raises(NoTrip(value), lambda: self.table[value])
            self.same(value in self.table, False)
        for word in self.table.names:
            self.same([word in self.table, self.table[word].name], [True, word])

    def test_between(self):
        self.same([trip.name for trip in self.table.between(a=6, b=10)], ["p", "q"])
        trips = [Stay("z", "a", 3, 1), Stay("b", "a", 3, 1), Stay("c", "a", 0, 1), Stay("a", "a", 23, 1)]
        table = Table(DAY, *trips)
        for a, b in product((0, 1, 3, 4, 23, 24, 30, TOP), repeat=2):
            found = table.between(a, b)
            wanted = sorted((trip.leaves, trip.name) for trip in trips if a <= trip.leaves < b)
            self.same(type(found), tuple)
            self.assertEqual([(trip.leaves, trip.name) for trip in found], wanted)

    def test_sum(self):
        other = Table(DAY, Stay("w", "c", 1, 2))
        self.same(told(self.table + other), [*self.told, "stay w c 1 2"])
        self.same(told(other + self.table), [*self.told, "stay w c 1 2"])
        for value in any_but(lambda value: isinstance(value, Table)) + [5, P]:
            self.raises(BadAsk("table"), lambda: self.table + value)
        self.raises(Unlike("day"), lambda: self.table + Table(Day(25), P, Q))
        self.raises(Twice("p"), lambda: self.table + Table(DAY, S, R, Q, P))
        self.raises(TooMany("trips", 40), lambda: self.table + Table(DAY, *stays(37)))
        many = Table(DAY, *[Stay(word, word, 0, 1) for word in "cdefghi"])
        self.raises(TooMany("places", 8), lambda: self.table + many)
        self.same(len(self.table + Table(DAY, *stays(36))), 40)

    def test_with_trips(self):
        self.same(told(self.table.with_trips()), self.told)
        more = self.table.with_trips(Run("x", "a", 1, 2, "c"), Run("o", "c", 4, 2, "a"))
        self.same(more.names, ("o", "p", "q", "r", "s", "x"))
        for value in any_but(lambda value: isinstance(value, Trip)):
            self.raises(BadTable(0), self.table.with_trips, value)
            self.raises(BadTable(1), self.table.with_trips, P, value, value)
        self.raises(Twice("p"), self.table.with_trips, P)
        self.raises(Twice("w"), self.table.with_trips, Stay("w", "a", 1, 1), Stay("w", "a", 1, 1))
        self.raises(TooMany("trips", 40), self.table.with_trips, *stays(37))
        self.raises(OutOfDay("w"), self.table.with_trips, Stay("w", "a", 24, 1))
        self.raises(TooMany("places", 8), self.table.with_trips, *[Stay(word, word, 0, 1) for word in "cdefghi"])
        self.raises(Unbalanced("a"), self.table.with_trips, Run("x", "a", 1, 2, "c"))

    def test_without(self):
        self.same(told(self.table.without()), self.told)
        self.same(self.table.without("p", "s").names, ("q", "r"))
        self.same(self.table.without("p", "s", "p", "p").names, ("q", "r"))
        self.same(self.table.without("s", "r", "q", "p").names, ())
        self.raises(Unbalanced("a"), self.table.without, "p")
        for value in any_but(lambda value: value in ("p", "q", "r", "s")):
            self.raises(NoTrip(value), self.table.without, value)
            self.raises(NoTrip(value), self.table.without, "p", value, "other")

    def test_moved(self):
        for k in (0, 1, -1, 9, 10, 24, -25, 10 ** 69, -(10 ** 69)):
            for names in ((), ("p",), ("s", "p"), ("p", "q", "r", "s"), ("p", "p", "p")):
                moved = self.table.moved(k, *names)
                for trip in self.table:
                    leaves = (trip.leaves + k) % 24 if not names or trip.name in names else trip.leaves
                    wanted = Run(trip.name, trip.start, leaves, trip.takes, trip.goal)
                    self.same(moved[trip.name] == wanted, True)
        table = Table(DAY, Stay("w", "a", 23, 100))
        self.same(told(table.moved(k=2)), ["24", "stay w a 1 100"])
        for value in any_but(integer):
            self.raises(BadNumber(value), self.table.moved, value)
            self.raises(BadNumber(value), self.table.moved, value, "no", value)
        for value in any_but(lambda value: value in ("p", "q", "r", "s")):
            self.raises(NoTrip(value), self.table.moved, 3, value)
            self.raises(NoTrip(value), self.table.moved, 3, "p", value, "other")

    def test_scaled(self):
        table = Table(DAY, Run("p", "a", 23, 100, "a"), Stay("w", "b", 0, 1))
        self.same(told(table.scaled(1)), told(table))
        self.same(told(table.scaled(k=60)), ["1440", "run p a 1380 6000 a", "stay w b 0 60"])
        self.same(told(table.scaled(10 ** 10)), ["240000000000", "run p a 230000000000 1000000000000 a",
                                                 "stay w b 0 10000000000"])
        for value in any_but(lambda value: integer(value) and 1 <= value <= TOP) + [0, -1]:
            self.raises(BadNumber(value), table.scaled, value)
        for k in (10 ** 10 + 1, TOP // 24, TOP // 24 + 1, TOP):
            self.raises(BadNumber(k), table.scaled, k)
        self.same(Table(DAY).scaled(TOP // 24).day.length, TOP // 24 * 24)
        self.raises(BadNumber(TOP // 24 + 1), Table(DAY).scaled, TOP // 24 + 1)
        self.raises(BadNumber(2), Table(Day(TOP)).scaled, 2)

    def test_equal(self):
        self.same([self.table == Table(DAY, S, R, Q, P), self.table != Table(DAY, S, R, Q, P)], [True, False])
        others = [Table(Day(25), P, Q, R, S), Table(DAY, P, Q), Table(DAY, P, Q, R, S + 1), Table(DAY)]
        others.append(Table(DAY, P, Q, R, Run("x", "b", 15, 2, "a")))
        for value in any_but(lambda value: False) + others:
            self.same([self.table == value, self.table != value], [False, True])
        self.same([Table(DAY) == Table(DAY), Table(DAY) == Table(Day(23))], [True, False])
        stay = Table(DAY, Stay("w", "a", 1, 2))
        self.same(stay == Table(DAY, Run("w", "a", 1, 2, "a")), False)


class TestMakingPauses(Checks):
    def test_both_ways(self):
        for pauses in (Pauses(b=15, a=2, c=0), Pauses.of({"c": 0, "b": 15, "a": 2}), Pauses.of(places={"b": 15, "a": 2})):
            self.same([str(pauses), list(pauses), len(pauses)], ["a 2 b 15", ["a", "b"], 2])
            self.same([pauses["a"], pauses["b"], pauses["c"], pauses["zzzzzzzz"]], [2, 15, 0, 0])
        for pauses in (Pauses(), Pauses.of({}), Pauses(a=0)):
            self.same([str(pauses), list(pauses), len(pauses), pauses["a"]], ["-", [], 0, 0])
        self.same(str(Pauses(places=3, a=TOP)), f"a {TOP} places 3")

    def test_odd_keys(self):
        self.same(str(Pauses.of({"self": 3, "cls": 1, "of": 2})), "cls 1 of 2 self 3")
        self.raises(BadName("A"), Pauses.of, {"A": 1})
        self.raises(BadName("a b"), Pauses, **{"a b": 1})
        self.raises(BadName(""), Pauses, **{"": None})
        self.raises(BadName("no_names"), Pauses, a=1, no_names=1)
        for key in (None, True, 3, "", "A", "a1", "abcdefghi", "a\n", (), ("a",), 10 ** 69):
            self.raises(BadName(key), Pauses.of, {key: 1})
            self.raises(BadName(key), Pauses.of, {"b": -1, key: -1, "c": -1, "D": 1})

    def test_wrong_values(self):
        for value in any_but(lambda value: isinstance(value, dict)):
            self.raises(BadAsk("places"), Pauses.of, value)
        for value in any_but(number) + [-1, TOP + 1]:
            self.raises(BadPauses("a"), Pauses, a=value)
            self.raises(BadPauses("b"), Pauses, c=value, b=value, a=1)
            self.raises(BadPauses("self"), Pauses.of, {"z": value, "self": value})
            self.raises(BadName("B"), Pauses.of, {"a": value, "B": value})

    def test_a_dict_that_changes_later(self):
        places = {"a": 2}
        pauses = Pauses.of(places)
        places["a"] = 3
        places["b"] = 1
        self.same(str(pauses), "a 2")

    def test_items(self):
        pauses = Pauses(a=2)
        for value in any_but(name):
            self.raises(BadName(value), lambda: pauses[value])

    def test_put(self):
        pauses = Pauses(a=2, c=4)
        self.same([str(pauses.put("b", 3)), str(pauses.put("a", 5)), str(pauses.put(number=0, place="a"))],
                  ["a 2 b 3 c 4", "a 5 c 4", "c 4"])
        self.same([str(pauses.put("b", 0)), str(pauses.put("self", TOP))], ["a 2 c 4", f"a 2 c 4 self {TOP}"])
        for value in any_but(name):
            self.raises(BadName(value), pauses.put, value, 3)
            self.raises(BadName(value), pauses.put, value, value if not number(value) else None)
        for value in any_but(number) + [-1, TOP + 1]:
            self.raises(BadPauses("b"), pauses.put, "b", value)
        self.same(str(pauses), "a 2 c 4")


class TestPausesSigns(Checks):
    def test_signs_place_by_place(self):
        dice = random.Random(4)
        for _ in range(300):
            rows = [{place: dice.randint(0, 2) for place in "abc" if dice.random() < 0.7} for _ in range(2)]
            one, other = Pauses.of(rows[0]), Pauses.of(rows[1])
            pairs = {place: (rows[0].get(place, 0), rows[1].get(place, 0)) for place in "abc"}
            self.hold(one + other, {place: sum(pair) for place, pair in pairs.items()})
            self.hold(one | other, {place: max(pair) for place, pair in pairs.items()})
            self.hold(one & other, {place: min(pair) for place, pair in pairs.items()})
            at_most = all(pair[0] <= pair[1] for pair in pairs.values())
            at_least = all(pair[0] >= pair[1] for pair in pairs.values())
            alike = at_most and at_least
            self.same([one <= other, one < other, one >= other, one > other, one == other, one != other],
                      [at_most, at_most and not alike, at_least, at_least and not alike, alike, not alike])
            self.hold(one, rows[0])
            self.hold(other, rows[1])

    def hold(self, pauses, wanted):
        self.same({place: pauses[place] for place in pauses}, {place: wanted[place] for place in pauses})
        self.same(list(pauses), sorted(place for place in wanted if wanted[place]))

    def test_wrong_values(self):
        pauses = Pauses(a=2)
        for value in any_but(lambda value: isinstance(value, Pauses)):
            for call in (lambda: pauses + value, lambda: pauses | value, lambda: pauses & value, lambda: pauses <= value,
                         lambda: pauses < value, lambda: pauses >= value, lambda: pauses > value):
                self.raises(BadAsk("pauses"), call)
                self.same([pauses == value, pauses != value], [False, True])

    def test_sums_above_the_bound(self):
        self.same(str(Pauses(a=TOP - 1) + Pauses(a=1)), f"a {TOP}")
        self.raises(BadPauses("b"), lambda: Pauses(c=TOP, b=TOP, a=1) + Pauses(b=1, c=1, a=1))
        self.raises(BadPauses("self"), lambda: Pauses.of({"self": TOP}) + Pauses.of({"self": TOP}))
        self.same(str(Pauses.of({"self": 1}) + Pauses.of({"self": 1, "a": 1})), "a 1 self 2")


class TestPausesTexts(Checks):
    def test_right_texts(self):
        for pauses in (Pauses(), Pauses(a=1), Pauses(a=2, b=15), Pauses(abcdefgh=TOP, z=1), Pauses.of({"self": 9})):
            again = Pauses.read(text=str(pauses))
            self.same([again == pauses, str(again)], [True, str(pauses)])

    def test_spoilt_texts(self):
        for text, wrong in (
            ("", 0), (" ", 0), ("-\n", 0), ("- ", 1), ("- a", 1), ("- -", 1), ("- a 2", 1), ("a", 1), ("a ", 1), ("a -", 1),
            ("a 0", 1), ("a 01", 1), ("a +1", 1), ("a -1", 1), ("a 1000000000001", 1), ("a 99999999999999", 1),
            ("a " + "9" * 2990, 1), ("a x", 1), ("a 2 ", 2), ("a 2 b", 3), ("a 2 -", 2), ("a 2 a 3", 2), ("b 2 a 3", 2),
            ("a 2 b 0", 3), ("a 2 b 3 c", 5), ("a 2 b 3 b 4", 4), ("A 2", 0), ("abcdefghi 2", 0), ("2 a", 0),
            ("a 2\n", 1), ("a 2\nb 3", 1), ("a\n2", 0), ("a  2", 1), (" a 2", 0), ("a 2  b 3", 2), ("pauses a 2", 1),
            ("a \u0662", 1), ("a 2 B 3", 2), ("a 1_0", 1),
        ):
            self.raises(BadText(0, wrong), Pauses.read, text)

    def test_any_value(self):
        for value in any_but(lambda value: isinstance(value, str)):
            self.raises(BadText(0, 0), Pauses.read, value)
        for value in ANY_VALUES:
            if isinstance(value, str):
                self.raises(BadText(0, 1 if value in ("a", "abcdefgh", "a b") else 0), Pauses.read, value)
