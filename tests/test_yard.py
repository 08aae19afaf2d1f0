"""Points [2], [8], [13] and [15], yard.py: held against days that are lived minute by minute."""

import random

from onelongturn.days import Day
from onelongturn.errors import BadAsk, BadNumber, Lacking, NoPlace, NoTrip, TooMany
from onelongturn.fewest import stock, under
from onelongturn.rules import FirstIn, LastIn, Named, Rule
from onelongturn.stairs import lateness
from onelongturn.tables import Pauses, Table
from onelongturn.trips import Run, Stay
from onelongturn.yard import Yard
from tests.support import ANY_VALUES, BILLION_DAY, Checks, any_but, balanced_trips, name, number, ready_behind, small_case

DAY = Day(24)
TABLE = Table(DAY, Run("p", "a", 6, 2, "b"), Run("q", "b", 9, 2, "a"), Run("r", "a", 12, 2, "b"),
              Run("s", "b", 15, 2, "a"))


class LivedYard:
    """A yard by the words of the document: lists that go on minute by minute."""

    def __init__(self, table, pauses, rule, stocks):
        self.table, self.pauses, self.rule = table, pauses, rule
        self.did, self.queues, self.coming, self.doers = [], {}, [], {name: [] for name in table.names}
        for place in table.places:
            self.queues[place] = []
            for _ in range(stocks[place]):
                self.queues[place].append(("-", len(self.did)))
                self.did.append([])
        length = table.day.length
        longest = max((trip.takes for trip in table), default=0) // length + 2
        for trip in table:
            for day in range(-longest, 0):
                moment = day * length + trip.leaves
                if moment < 0 <= moment + trip.takes:
                    ready = moment - trip.leaves + ready_behind(trip, pauses)
                    self.coming.append((ready, trip.name, len(self.did)))
                    self.did.append([(trip.name, moment, ready)])
        self.day = 0

    def live(self, late):
        """Lives a day; returns the name of the first trip that lacks a vehicle, and then is of no use any more."""
        length = self.table.day.length
        for moment in range(self.day * length, (self.day + 1) * length):
            for ready, name, vehicle in sorted(row for row in self.coming if row[0] == moment):
                self.queues[self.table[name].goal].append((name, vehicle))
            self.coming = [row for row in self.coming if row[0] != moment]
            for trip in self.table:
                if trip.leaves == moment % length:
                    queue = self.queues[trip.start]
                    if not queue:
                        return trip.name
                    _, vehicle = queue.pop(self.choice([word for word, _ in queue]))
                    ready = moment - trip.leaves + ready_behind(trip, self.pauses) + late.get(trip.name, 0)
                    self.did[vehicle].append((trip.name, moment, ready))
                    self.doers[trip.name].append(vehicle)
                    self.coming.append((ready, trip.name, vehicle))
        self.day += 1
        return None

    def choice(self, words):
        if isinstance(self.rule, FirstIn):
            return 0
        if isinstance(self.rule, LastIn):
            return len(words) - 1
        return next((words.index(word) for word in self.rule.names if word in words), 0)


class TestLivedDays(Checks):
    def check_shown(self, yard, lived):
        table = lived.table
        self.same([yard.lived, len(yard)], [lived.day, len(lived.did)])
        self.same(list(yard), [tuple(did) for did in lived.did])
        self.same([yard[vehicle] for vehicle in range(len(yard))], [tuple(did) for did in lived.did])
        for place in table.places:
            self.same(yard.waiting(place), tuple(vehicle for _, vehicle in lived.queues[place]))
        for word in table.names:
            self.same(yard.done(word), tuple(lived.doers[word]))

    def any_rule(self, dice, table):
        names = dice.sample(table.names, dice.randint(0, len(table)))
        return dice.choice((FirstIn(), LastIn(), Named(*names), Named("zz", *names)))

    def some_lateness(self, dice, table, most):
        runs = [trip.name for trip in table if isinstance(trip, Run)]
        if dice.random() < 0.3:
            return dice.choice((None, {}))
        return {word: dice.randint(0, most) for word in dice.sample(runs, dice.randint(0, len(runs)))}

    def live_both(self, yard, lived, late):
        """Lives a day in both; whether nobody lacked."""
        lacking = lived.live(late or {})
        if lacking is None:
            self.same(yard.day_on(late) if late is not None else yard.day_on(), None)
            return True
        self.raises(Lacking(lacking), yard.day_on, late)
        return False

    def test_minute_by_minute(self):
        dice = random.Random(190)
        lacked, days = 0, 0
        for at in range(200):
            table, pauses = small_case(dice, dice.choice((2, 6, 12)), "abc", dice.choice((1, 3, 9, 24)))
            if under(table) > 100:
                continue
            rule = self.any_rule(dice, table)
            stocks = {place: stock(table, pauses, place) + dice.choice((0, 0, 1, 3)) for place in table.places}
            if dice.random() < 0.2:
                stocks = {place: max(0, many - 1) for place, many in stocks.items()}
            told = dict(stocks)
            yard, lived = Yard(table, pauses, rule, stocks), LivedYard(table, pauses, rule, stocks)
            self.check_shown(yard, lived)
            most = dice.choice((0, 0, 1, 5, 60))
            for _ in range(8):
                late = self.some_lateness(dice, table, most)
                before = [list(yard), yard.lived, [yard.waiting(place) for place in table.places]]
                if not self.live_both(yard, lived, late):
                    self.same([list(yard), yard.lived, [yard.waiting(place) for place in table.places]], before)
                    lacked += 1
                    break
                days += 1
                self.check_shown(yard, lived)
            self.same(stocks, told)
        self.assertTrue(lacked > 30 and days > 400, (lacked, days))

    def test_on_the_longest_days_event_by_event(self):
        dice = random.Random(191)
        for places in ("a", "abcdefgh"):
            length = BILLION_DAY
            small = Table(Day(1000), *balanced_trips(dice, 1000, 40, places, 1000))
            table = small.scaled(length // 1000)
            pauses = Pauses.of({place: dice.randrange(3000) for place in places})
            wide = Pauses.of({place: pauses[place] * (length // 1000) if pauses[place] <= 1000 else 10 ** 12 for place in places})
            pauses = Pauses.of({place: wide[place] // (length // 1000) for place in places})
            stocks = {place: stock(table, wide, place) for place in table.places}
            yard, other = Yard(table, wide, LastIn(), stocks), Yard(small, pauses, LastIn(), stocks)
            for _ in range(5):
                yard.day_on()
                other.day_on()
            factor = length // 1000
            for vehicle in range(len(yard)):
                self.same(yard[vehicle], tuple((word, leaves * factor, ready * factor) for word, leaves, ready in other[vehicle]))

    def test_lateness_that_is_borne(self):
        dice = random.Random(192)
        broken = 0
        for _ in range(60):
            table, pauses = small_case(dice, 6, "ab", dice.choice((5, 24)))
            stocks = {place: stock(table, pauses, place) + dice.randrange(3) for place in table.places}
            borne = lateness(table, pauses, stocks)
            if borne is None or sum(stocks.values()) + under(table) > 150:
                continue
            for rule in (FirstIn(), LastIn()):
                yard = Yard(table, pauses, rule, stocks)
                for _ in range(15):
                    yard.day_on({trip.name: dice.choice((0, borne, dice.randint(0, borne)))
                                 for trip in table if isinstance(trip, Run)})
            runs = {trip.name: borne + 1 for trip in table if isinstance(trip, Run)}
            try:
                yard = Yard(table, pauses, FirstIn(), stocks)
                for _ in range(2 + 2 * (max(trip.takes for trip in table) + borne + 70) // table.day.length):
                    yard.day_on(runs)
            except Lacking:
                broken += 1
        self.assertTrue(broken > 10)

    def test_numbers_of_vehicles(self):
        table = Table(DAY, Run("x", "b", 20, 52, "a"), Run("y", "a", 1, 2, "b"), Stay("w", "a", 23, 26), Run("v", "b", 0, 24, "b"))
        yard = Yard(table, Pauses(a=3, b=1), FirstIn(), {"b": 1, "a": 2})
        self.same(list(yard), [(), (), (), (("v", -24, 1),), (("w", -25, 1),), (("w", -1, 25),), (("x", -52, 3),),
                               (("x", -28, 27),), (("x", -4, 51),)])
        self.same([yard.waiting("a"), yard.waiting("b"), yard.lived, yard.done("x")], [(0, 1), (2,), 0, ()])
        self.same([yard.day_on(), yard.waiting("a"), yard.waiting("b")], [None, (4, 6), (0,)])
        self.same([yard[0], yard[3], yard[2]], [(("y", 1, 4),), (("v", -24, 1), ("x", 20, 75)), (("v", 0, 25),)])
        self.same([yard.done("y"), yard.done("w"), yard[1]], [(0,), (1,), (("w", 23, 49),)])

    def test_names_more_than_once(self):
        table = Table(DAY, Run("x", "a", 6, 24, "a"), Stay("w", "a", 18, 24))
        yard = Yard(table, None, Named("x", "w"), {"a": 6})
        for _ in range(6):
            yard.day_on()
        lived = LivedYard(table, None, Named("x", "w"), {"a": 6})
        for _ in range(6):
            lived.live({})
        self.check_shown(yard, lived)
        spare = Yard(table, Pauses(a=30), Named("w", "x"), {"a": 5})
        for _ in range(6):
            spare.day_on({"x": 24} if spare.lived == 1 else None)
        again = LivedYard(table, Pauses(a=30), Named("w", "x"), {"a": 5})
        for day in range(6):
            again.live({"x": 24} if day == 1 else {})
        self.check_shown(spare, again)

    def test_of_one_minute_by_names_and_then_by_numbers(self):
        table = Table(Day(10), Run("y", "a", 1, 4, "a"), Run("x", "a", 2, 3, "a"), Stay("z", "a", 3, 2))
        yard = Yard(table, None, FirstIn(), {"a": 3})
        self.same([yard.day_on(), yard.waiting("a")], [None, (1, 0, 2)])
        late = Yard(table, None, FirstIn(), {"a": 6})
        self.same([late.day_on({"x": 10, "y": 10}), late.waiting("a")], [None, (3, 4, 5, 2)])
        self.same([late.day_on({"x": 3, "y": 2}), late.waiting("a")], [None, (2, 1, 0, 5, 3, 4)])
        twice = Yard(Table(Day(10), Run("x", "a", 1, 1, "a")), None, LastIn(), {"a": 2})
        self.same([twice.day_on({"x": 10}), twice.day_on(), twice.waiting("a"), twice.done("x")], [None, None, (0, 1), (1, 0)])

    def test_the_day_of_one_minute(self):
        table = Table(Day(1), Run("x", "a", 0, 3, "a"), Stay("w", "a", 0, 1))
        yard, lived = Yard(table, Pauses(a=2), LastIn(), {"a": 2}), LivedYard(table, Pauses(a=2), LastIn(), {"a": 2})
        self.same(len(yard), 6)
        for _ in range(9):
            self.same([yard.day_on(), lived.live({})], [None, None])
            self.check_shown(yard, lived)


class TestTakenBack(Checks):
    def states(self, yard):
        return [list(yard), yard.lived, [yard.waiting(place) for place in "ab"], [yard.done(word) for word in "pqrs"]]

    def test_undo(self):
        dice = random.Random(193)
        yard = Yard(TABLE, Pauses(a=2), LastIn(), {"a": 3, "b": 1})
        past = [self.states(yard)]
        for _ in range(200):
            if dice.random() < 0.45:
                self.same(yard.undo(), len(past) > 1)
                past = past[:-1] or past
            else:
                yard.day_on({dice.choice("pqrs"): dice.randint(0, 1)})
                past.append(self.states(yard))
            self.same(self.states(yard), past[-1])
        while len(past) > 1:
            past.pop()
            self.same([yard.undo(), self.states(yard)], [True, past[-1]])
        self.same([yard.undo(), self.states(yard)], [False, past[0]])

    def test_trials(self):
        dice = random.Random(194)
        for _ in range(40):
            yard = Yard(TABLE, Pauses(a=2), FirstIn(), {"a": 2, "b": 0})
            past = [self.states(yard)]
            for _ in range(dice.randrange(4)):
                yard.day_on()
                past.append(self.states(yard))
            self.trial_of(dice, yard, 3)
            while past:
                self.same(self.states(yard), past.pop())
                self.same(yard.undo(), len(past) > 0)

    def trial_of(self, dice, yard, deep):
        before = self.states(yard)

        def work(same):
            self.assertIs(same, yard)
            for _ in range(dice.randrange(6)):
                if dice.random() < 0.4:
                    self.same(same.undo(), bool(went))
                    went[-1:] = []
                elif dice.random() < 0.3 and deep > 0:
                    self.trial_of(dice, same, deep - 1)
                else:
                    same.day_on({"s": dice.randint(0, 3)})
                    went.append(True)
            if dice.random() < 0.3:
                same.day_on({"p": 20})
                same.day_on()
            return ("told", same.lived)

        went = [True] * yard.lived
        try:
            if dice.random() < 0.5:
                self.same(yard.tried(work)[0], "told")
            else:
                with yard.trial() as same:
                    work(same)
        except Lacking as error:
            self.assertIn(error.name, "pqrs")
        self.same(self.states(yard), before)

    def test_errors_go_on(self):
        yard = Yard(TABLE, None, FirstIn(), {"a": 1, "b": 1})
        yard.day_on()
        for value in ANY_VALUES:
            self.assertIs(yard.tried(lambda same: value), value)

        def work(same):
            same.undo()
            same.day_on()
            same.day_on()
            raise KeyError("k")

        with self.assertRaises(KeyError):
            yard.tried(work=work)
        block = yard.trial()
        yard.day_on()
        with self.assertRaises(KeyError), block as same:
            work(same)
        self.same([yard.lived, yard.undo(), yard.lived], [2, True, 1])

    def test_lacking_changes_nothing(self):
        yard = Yard(TABLE, Pauses(a=2), FirstIn(), {"a": 2, "b": 0})
        yard.day_on()
        before = self.states(yard)
        for late, wrong in (({"p": 2}, "q"), ({"r": 24, "p": 1}, "s"), ({"q": 10 ** 12, "r": 2}, "s")):
            self.raises(Lacking(wrong), yard.day_on, late)
            self.same(self.states(yard), before)
        self.raises(Lacking("p"), Yard(TABLE, None, FirstIn(), {"a": 0, "b": 9}).day_on)
        self.raises(Lacking("q"), Yard(TABLE.moved(5, "p"), None, FirstIn(), {"a": 1, "b": 0}).day_on)

    def test_what_is_returned_does_not_change_behind(self):
        yard = Yard(TABLE, Pauses(a=2), FirstIn(), {"a": 2, "b": 0})
        yard.day_on()
        told = [yard[0], yard.waiting("a"), yard.done("p"), list(yard)]
        wanted = [yard[0], tuple(yard.waiting("a")), yard.done("p"), [yard[0], yard[1]]]
        yard.day_on()
        self.same(told, wanted)
        late = {"q": 1}
        yard.day_on(late)
        late["q"] = 9
        self.same([late, yard.lived], [{"q": 9}, 3])


class TestBounds(Checks):
    def test_four_hundred_days(self):
        trips = [Run("t" + chr(97 + at // 26) + chr(97 + at % 26), "a", 2 * at, 1, "a") for at in range(40)]
        yard = Yard(Table(Day(80), *trips), None, FirstIn(), {"a": 200})
        for _ in range(400):
            yard.day_on()
        self.same([yard.lived, len(yard), sum(len(did) for did in yard)], [400, 200, 16000])
        self.raises(TooMany("days", 400), yard.day_on)
        self.raises(TooMany("days", 400), yard.day_on, {"taa": 10 ** 12})
        self.raises(BadNumber(-1), yard.day_on, {"taa": -1})
        self.same([yard.lived, yard.tried(lambda same: (same.undo(), same.day_on(), same.lived))], [400, (True, None, 400)])
        self.same([yard.undo(), yard.lived, yard.day_on(), yard.lived], [True, 399, None, 400])
        empty = Yard(Table(DAY), None, FirstIn(), {})
        for _ in range(400):
            self.same(empty.day_on({}), None)
        self.raises(TooMany("days", 400), empty.day_on)

    def test_two_hundred_vehicles(self):
        self.same(len(Yard(TABLE, None, LastIn(), {"a": 200, "b": 0})), 200)
        self.raises(TooMany("vehicles", 200), Yard, TABLE, None, LastIn(), {"a": 200, "b": 1})
        self.raises(TooMany("vehicles", 200), Yard, TABLE, None, LastIn(), {"a": 10 ** 12, "b": 10 ** 12})
        long = Table(DAY, Stay("w", "a", 23, 1 + 24 * 198))
        self.same(len(Yard(long, None, LastIn(), {"a": 1})), 200)
        self.raises(TooMany("vehicles", 200), Yard, long, None, LastIn(), {"a": 2})
        for takes in (1 + 24 * 200, 10 ** 12):
            self.raises(TooMany("vehicles", 200), Yard, Table(DAY, Stay("w", "a", 23, takes)), None, LastIn(), {"a": 0})


class TestErrors(Checks):
    def test_made(self):
        rule, stocks = FirstIn(), {"a": 1, "b": 1}
        for value in any_but(lambda value: isinstance(value, Table)):
            self.raises(BadAsk("table"), Yard, value, value, value, value)
        for value in any_but(lambda value: value is None or isinstance(value, Pauses)):
            self.raises(BadAsk("pauses"), Yard, TABLE, value, value, value)
        for value in any_but(lambda value: isinstance(value, Rule)):
            self.raises(BadAsk("rule"), Yard, TABLE, None, value, value)
            self.raises(BadAsk("rule"), Yard, stocks={}, rule=value, pauses=None, table=TABLE)
        for value in any_but(lambda value: False) + [{"a": 1}, {"a": 1, "b": 1, "c": 1}, {"a": 1, "c": 1}, ["a", "b"]]:
            self.raises(BadAsk("stocks"), Yard, TABLE, None, rule, value)
        for value in any_but(number) + [-1, 10 ** 12 + 1]:
            self.raises(BadAsk("stocks"), Yard, TABLE, None, rule, {"a": 1, "b": value})
            self.raises(BadAsk("stocks"), Yard, TABLE, None, rule, {"b": 300, "a": value})
        self.same(len(Yard(stocks=stocks, rule=rule, pauses=None, table=TABLE)), 2)

    def test_late(self):
        table = TABLE.with_trips(Stay("w", "a", 0, 1))
        yard = Yard(table, None, FirstIn(), {"a": 3, "b": 1})
        for value in any_but(lambda value: value is None or isinstance(value, dict)):
            self.raises(BadAsk("late"), yard.day_on, value)
            self.raises(BadAsk("late"), yard.day_on, late=value)
        for key in (None, True, 0, 1, "w", "a", "P", "", (), ("p",), 10 ** 69, "z" * 3000):
            self.raises(NoTrip(key), yard.day_on, {key: 1})
            self.raises(NoTrip(key), yard.day_on, {"p": -1, key: 1, "x": 2})
            self.raises(NoTrip("x"), yard.day_on, {"p": -1, "x": 2, key: 1})
        for value in any_but(number) + [-1, 10 ** 12 + 1]:
            self.raises(BadNumber(value), yard.day_on, {"p": value})
            self.raises(BadNumber(value), yard.day_on, {"s": "x", "q": value, "p": 3, "r": -7})
        self.same([yard.lived, yard.day_on({"p": 1}), yard.lived], [0, None, 1])

    def test_vehicles_places_and_names(self):
        yard = Yard(TABLE, None, FirstIn(), {"a": 2, "b": 0})
        for value in any_but(lambda value: type(value) is int and value in (0, 1)) + [2, -1, "0"]:
            self.raises(BadNumber(value), lambda: yard[value])
        for value in any_but(lambda value: value == "a") + ["c", "p"]:
            self.raises(NoPlace(value), yard.waiting, value)
            self.raises(NoPlace(value), yard.waiting, place=value)
        for value in any_but(lambda value: False) + ["t", "b"]:
            self.raises(NoTrip(value), yard.done, value)
            self.raises(NoTrip(value), yard.done, name=value)
        self.assertTrue(all(name(word) for word in TABLE.names))
