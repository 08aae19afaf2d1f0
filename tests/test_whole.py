"""What the document promises over the whole program: equal answers everywhere, errors in order, nothing that is changed."""

import inspect
import random
from itertools import product

from onelongturn.board import Board
from onelongturn.clocks import Clocks
from onelongturn.counts import all_plans, number_of, plan_at, plans_count
from onelongturn.curves import Curve, pausing, stands, under_way
from onelongturn.days import Day
from onelongturn.desk import Desk
from onelongturn.errors import (
    BadAsk, BadDay, BadName, BadNumber, BadPauses, BadPlan, BadText, BadTrip, NoPlace, NoTrip, TooMany, Unlike,
)
from onelongturn.fewest import days_by, fewest, room, stock, under
from onelongturn.joined import saved, saved_ever
from onelongturn.looker import shows_fewest, shows_stays, shows_turn
from onelongturn.papers import fewest_paper, stays_paper, turn_paper
from onelongturn.plans import Plan
from onelongturn.reader import read_pauses, read_plan, read_table
from onelongturn.rounds import rounds, unrolled
from onelongturn.rules import FirstIn, LastIn, Named, plan_by
from onelongturn.shifts import nearest, shifts
from onelongturn.stairs import above, alike, lateness, stair
from onelongturn.stays import free, kept, most_stays
from onelongturn.swaps import fewest_swaps, merged, swaps_to
from onelongturn.tables import Pauses, Table
from onelongturn.texts import write_pauses, write_plan, write_table
from onelongturn.trips import Run, Stay
from onelongturn.turns import OneTurn, lots, one_turn, stretches
from onelongturn.yard import Yard
from tests.support import BILLION_DAY, Checks, balanced_trips, small_case
from tests.test_turns import TABLE, loop_row, tight_loops

DAY = Day(24)
EMPTY = Table(DAY)
PLAN = plan_by(TABLE, None, FirstIn())
STOCKS = {"a": 1, "b": 0}
LONG = Table(Day(2001), Stay("w", "a", 0, 1))
THE_TABLE = ("table", TABLE, None, BadAsk("table"))
WITH_TRIPS = ("table", TABLE, EMPTY, BadAsk("table"))
THE_PAUSES = ("pauses", None, 3, BadAsk("pauses"))
THE_PLACE = ("place", "a", "zz", NoPlace("zz"))
TAKES = ("takes", 3, True, BadNumber(True))
ONE = ("one", TABLE, 1, BadAsk("one"))
OTHER = ("other", Table(DAY), "x", BadAsk("other"))
# Each function with its parameters in the order of their errors: a right value, a wrong one, and the error of this one.
ORDERS = [
    *[(call, [THE_TABLE, THE_PAUSES, THE_PLACE]) for call in (stands, pausing, stock, room, stretches)],
    *[(call, [THE_TABLE]) for call in (under, under_way)],
    *[(call, [THE_TABLE, THE_PAUSES]) for call in (fewest, plans_count, fewest_paper, Board)],
    *[(call, [WITH_TRIPS, THE_PAUSES]) for call in (one_turn, rounds, turn_paper)],
    (lambda table, pauses: next(all_plans(table, pauses)), [THE_TABLE, THE_PAUSES]),
    (days_by, [THE_TABLE, THE_PAUSES, ("cuts", {"a": 0, "b": 0}, {"a": 0}, BadAsk("cuts"))]),
    (Plan, [THE_TABLE, THE_PAUSES, ("follows", PLAN.follows, [], BadPlan(None))]),
    (plan_by, [THE_TABLE, THE_PAUSES, ("rule", LastIn(), "last", BadAsk("rule"))]),
    (plan_at, [THE_TABLE, THE_PAUSES, ("number", 0, 99, BadNumber(99))]),
    (lots, [THE_TABLE, THE_PAUSES, ("taken", ["a"], "a", BadAsk("taken"))]),
    (lots, [THE_TABLE, THE_PAUSES, ("taken", ["a"], ["a", "c", 1], NoPlace("c"))]),
    (stair, [THE_TABLE, THE_PLACE]),
    (lateness, [THE_TABLE, THE_PAUSES, ("stocks", STOCKS, {"a": 1}, BadAsk("stocks"))]),
    (shifts, [THE_TABLE, THE_PAUSES, ("names", ["p"], "p", BadAsk("names"))]),
    (lambda table, pauses, names: nearest(table, pauses, names, 1), [
        THE_TABLE, THE_PAUSES, ("names", ["p"], ["q", "x", 0], NoTrip("x"))]),
    (saved, [ONE, OTHER, THE_PAUSES]),
    (saved, [ONE, OTHER, THE_PAUSES, ("other", EMPTY, Table(Day(3)), Unlike("day"))]),
    *[(call, [ONE, OTHER]) for call in (saved_ever, above, alike)],
    *[(call, [ONE, OTHER, ("other", EMPTY, Table(Day(3)), Unlike("day"))]) for call in (saved_ever, above, alike)],
    *[(call, [("one", PLAN, 1, BadAsk("one")), ("other", PLAN, TABLE, BadAsk("other"))]) for call in (fewest_swaps, swaps_to)],
    (unrolled, [THE_TABLE, ("k", 2, 13, BadNumber(13))]),
    (free, [THE_TABLE, THE_PAUSES, THE_PLACE, TAKES]),
    (free, [("table", TABLE, Plan, BadAsk("table")), THE_PAUSES, THE_PLACE, ("takes", 1, 0, BadNumber(0))]),
    (kept, [WITH_TRIPS, THE_PAUSES, THE_PLACE, TAKES]),
    *[(call, [THE_TABLE, THE_PAUSES, THE_PLACE, TAKES, ("spare", 0, 41, BadNumber(41))]) for call in (most_stays, stays_paper)],
    (lambda spare, table, takes: most_stays(table, None, "a", takes, spare), [
        ("takes", 1, 2002, BadNumber(2002)), ("spare", 0, -1, BadNumber(-1)), ("table", TABLE, LONG, TooMany("minutes", 2000))]),
    (lambda table, pauses, place, takes, spare: shows_stays(table, pauses, place, takes, spare, []), [
        THE_TABLE, THE_PAUSES, THE_PLACE, TAKES, ("spare", 0, False, BadNumber(False))]),
    (lambda table, pauses: shows_fewest(table, pauses, []), [THE_TABLE, THE_PAUSES]),
    (lambda table, pauses: shows_turn(table, pauses, []), [WITH_TRIPS, THE_PAUSES]),
    (Yard, [THE_TABLE, THE_PAUSES, ("rule", Named(), None, BadAsk("rule")), ("stocks", STOCKS, {"a": 1, "b": -1}, BadAsk("stocks"))]),
    (Yard, [THE_TABLE, THE_PAUSES, ("rule", Named(), FirstIn, BadAsk("rule")),
            ("stocks", STOCKS, {"a": 200, "b": 1}, TooMany("vehicles", 200))]),
    (Table.of, [("day", DAY, 24, BadAsk("day")), ("trips", [], "trips", BadAsk("trips"))]),
    (Clocks.of, [("day", DAY, 24, BadAsk("day")), ("pieces", [], None, BadAsk("pieces"))]),
    (Clocks.read, [("day", DAY, 24, BadAsk("day")), ("text", "-", "", BadText(0, 0))]),
    (Curve, [("day", DAY, 24, BadAsk("day")), ("steps", [(0, 1)], [], BadAsk("steps"))]),
    (Pauses().put, [("place", "a", "A", BadName("A")), ("number", 1, -1, BadPauses("a"))]),
    (lambda place, number: Board(TABLE).pause(place, number), [("place", "a", "A", BadName("A")), ("number", 1, -1, BadPauses("a"))]),
    (DAY.forward, [("a", 1, None, BadNumber(None)), ("b", 2, 10 ** 60, BadNumber(10 ** 60))]),
    (Run, [("name", "p", "P", BadTrip("name")), ("start", "a", 1, BadTrip("place")), ("goal", "a", "", BadTrip("place")),
           ("leaves", 0, -1, BadTrip("leaves")), ("takes", 1, 0, BadTrip("takes"))]),
    (Stay, [("name", "p", "P", BadTrip("name")), ("place", "a", 1, BadTrip("place")), ("leaves", 0, -1, BadTrip("leaves")),
            ("takes", 1, 0, BadTrip("takes"))]),
    *[(getattr(PLAN, word), [("one", "q", "x", NoTrip("x")), ("other", "s", "a", NoTrip("a")), ("other", "s", "q", Unlike("trip")),
                             ("other", "s", "p", Unlike("place"))]) for word in ("meet", "swapped")],
]


class TestErrorsInOrder(Checks):
    def test_the_first_one_that_applies_by_position_and_by_name(self):
        for call, told in ORDERS:
            parameters = list(inspect.signature(call).parameters)
            for wrongs in product((False, True), repeat=len(told)):
                values, first = {}, None
                for wrong, (parameter, right, other, error) in zip(wrongs, told):
                    if parameter not in values or (wrong and values[parameter] is right):
                        values[parameter] = other if wrong else right
                    if wrong and first is None and values[parameter] is other:
                        first = error
                by_position = [values[parameter] for parameter in parameters if parameter in values]
                backward = dict(reversed(list(values.items())))
                with self.subTest(call=call, values=values):
                    if first is None:
                        call(*by_position)
                        call(**backward)
                    else:
                        self.raises(first, call, *by_position)
                        self.raises(first, call, **values)
                        self.raises(first, call, **backward)

    def test_errors_in_values_that_are_made_of_parts(self):
        self.raises(BadDay(0), Day, 0)
        self.raises(NoTrip("x"), TABLE.moved, 1, "p", "x", "y")
        self.raises(BadNumber("1"), TABLE.moved, "1", "x")


def any_case(dice, at):
    if at % 4 == 0:
        return tight_loops(dice, dice.randint(1, 6), "abcd", 24), None
    if at % 4 == 1:
        length = (24, BILLION_DAY)[at % 8 == 1]
        table = Table(Day(length), *balanced_trips(dice, length, 40, ("ab", "abcdefgh")[at % 3 == 0], length))
        return table, Pauses.of({place: dice.choice((0, 1, 10 ** 12)) for place in table.places})
    table, pauses = small_case(dice, 8, "abc", dice.choice((1, 3, 24)))
    return table, pauses


class TestEqualAnswers(Checks):
    def desk_of(self, table, pauses):
        desk = Desk()
        desk.run(f"day {table.day}", *write_table(table).split("\n")[1:])
        for place in pauses or []:
            desk.ask(f"pause {place} {pauses[place]}")
        return desk

    def test_board_desk_papers_and_functions(self):
        dice = random.Random(240)
        for at in range(120):
            table, pauses = any_case(dice, at)
            found, turned, turning = fewest(table, pauses), one_turn(table, pauses), rounds(table, pauses)
            number = turned.number if isinstance(turned, OneTurn) else None
            board, desk = Board(table, pauses), self.desk_of(table, pauses)
            for one in (board, desk.board_now(), board.twin()):
                self.same([one.fewest_now(), one.one_now()], [found.number, number])
                self.same([one.told_table() == table, one.told_pauses() == (pauses or Pauses())], [True, True])
            self.same([desk("fewest"), desk("one").split(" ")[0]], [str(found.number), "never" if number is None else str(number)])
            paper, turn = fewest_paper(table, pauses), turn_paper(table, pauses)
            self.same([paper[1], dict(paper[2])], [found.number, found.cuts])
            self.same([days_by(table, pauses, found.cuts), under(table) + sum(stock(table, pauses, place) for place in table.places)],
                      [found.number] * 2)
            self.same([turning.fewest, turning.vehicles_of(1), turning.lots_of(1)], [found.number, number, len(lots(table, pauses))])
            self.same(shifts(table, pauses, table.names[:3])[0], found.number)
            for other, value in ((shows_fewest, paper), (shows_turn, turn)):
                self.same(other(table, pauses, value), True)
            if number is None:
                self.same(turn[1], turned.parts[0])
                self.same(turning.more, None)
            else:
                self.same([turn[1], turn[2], len(turned.taken)], [number, turned.plan.turns[0], turning.more])
            lean = plan_by(table, pauses, LastIn())
            self.same([lean.vehicles, read_plan(write_plan(lean)) == lean], [found.number, True])
            self.same(len(merged(lean).plan), len(lots(table, pauses)))
            self.same(plan_at(table, pauses, number_of(lean)) == lean, True)

    def test_stays_yards_and_curves(self):
        dice = random.Random(241)
        for at in range(80):
            table, pauses = small_case(dice, 6, "abc", dice.choice((2, 9, 24)))
            desk, length = self.desk_of(table, pauses), table.day.length
            for place in table.places:
                curve = stands(table, pauses, place)
                takes = dice.randint(1, length)
                self.same(desk(f"free {place} {takes}"), str(free(table, pauses, place, takes)))
                self.same(free(table, pauses, place, 1) == (curve.where(1) if length > 1 else Clocks(table.day)), True)
                self.same(kept(table, pauses, place, takes) <= free(table, pauses, place, takes), True)
                paper = stays_paper(table, pauses, place, takes, 1)
                self.same([paper[1], shows_stays(table, pauses, place, takes, 1, paper)],
                          [most_stays(table, pauses, place, takes, 1).number, True])
                self.same(paper[1] >= 1, True)
                self.same(most_stays(table, pauses, place, takes).number > 0, free(table, pauses, place, takes).many > 0)
            stocks = {place: stock(table, pauses, place) for place in table.places}
            if under(table) + sum(stocks.values()) <= 200:
                yard = Yard(table, pauses, FirstIn(), stocks)
                self.same(len(yard), fewest(table, pauses).number)
                for _ in range(4):
                    yard.day_on()

    def test_one_day_of_a_yard_is_a_plan(self):
        dice = random.Random(242)
        for _ in range(60):
            table, pauses = small_case(dice, 6, "ab", 24)
            stocks = {place: stock(table, pauses, place) for place in table.places}
            if under(table) + sum(stocks.values()) > 200:
                continue
            yard = Yard(table, pauses, FirstIn(), stocks)
            longest = max(trip.takes + pauses[trip.goal] if pauses else trip.takes for trip in table)
            for _ in range(2 * (longest // table.day.length + 3)):
                yard.day_on()
            follows = {}
            for did in yard:
                for (name, _, ready), (behind, leaves, _) in zip(did, did[1:]):
                    if leaves // table.day.length == yard.lived - 1:
                        follows[name] = behind
            self.same(follows, plan_by(table, pauses, FirstIn()).follows)


class TestNothingIsChanged(Checks):
    def test_what_is_passed(self):
        dice = random.Random(243)
        for at in range(30):
            table, pauses = any_case(dice, at)
            texts = [write_table(table), write_pauses(pauses)]
            cuts, stocks = dict(fewest(table, pauses).cuts), {place: 1 for place in table.places}
            names, taken, told = list(table.names), list(table.places), plan_by(table, pauses, LastIn()).follows
            kept_before = [dict(cuts), dict(stocks), list(names), list(taken), dict(told)]
            plan = Plan(table, pauses, told)
            for call in (fewest, one_turn, rounds, fewest_paper, turn_paper, plans_count):
                call(table, pauses)
            merged(plan), number_of(plan), days_by(table, pauses, cuts), lots(table, pauses, taken), shifts(table, pauses, names)
            lateness(table, pauses, stocks), unrolled(table, 1), swaps_to(plan, plan_by(table, pauses, FirstIn()))
            for place in table.places:
                for takes in (1, 7, 10 ** 12):
                    free(table, pauses, place, takes), kept(table, pauses, place, takes)
            board = Board(table, pauses)
            board += 7
            board.drop(table.names[0])
            board.pause(table.places[0], 5)
            if under(table) + len(stocks) <= 200:
                Yard(table, pauses, LastIn(), stocks)
            self.same([cuts, stocks, names, taken, told], kept_before)
            self.same([write_table(table), write_pauses(pauses), plan == Plan(table, pauses, told)], [*texts, True])

    def test_what_was_passed_and_returned_can_be_changed_behind(self):
        trips, follows, stocks = list(TABLE), PLAN.follows, {"a": 1, "b": 0}
        table, plan, yard = Table.of(DAY, trips), Plan(TABLE, None, follows), Yard(TABLE, None, FirstIn(), stocks)
        trips.clear()
        follows.clear()
        stocks["a"] = 0
        self.same([table == TABLE, plan == PLAN, yard.day_on(), len(yard)], [True, True, None, 1])
        found = fewest(TABLE)
        found.cuts["a"] = 99
        self.same([fewest(TABLE).cuts["a"], Board(TABLE).fewest_now()], [7, 1])
        plan.follows.clear()
        self.same(plan.follows, PLAN.follows)
        answers = Desk().run("show", "day 24")
        answers.clear()

    def test_equal_arguments_have_equal_answers(self):
        dice = random.Random(244)
        for at in range(20):
            table, pauses = any_case(dice, at)
            again = read_table(write_table(table)), read_pauses(write_pauses(pauses))
            for call in (fewest, one_turn, rounds):
                self.same(call(table, pauses) == call(*again), True)
            for call in (fewest_paper, turn_paper):
                self.same(call(table, pauses), call(*again))
        row = loop_row(24, "abc")
        self.same(stays_paper(row, None, "b", 5, 2), stays_paper(read_table(write_table(row)), Pauses(), "b", 5, 2))
