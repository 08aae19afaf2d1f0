"""The examples of the document, word for word."""

import re
import unittest
from pathlib import Path

from tests.support import Checks

DOC = Path(__file__).resolve().parent.parent.parent / "shared" / "DOC.md"

DAYS = """
>>> from onelongturn.days import Day
>>> day = Day(24)
>>> [30 % day, -1 % day, -1 // day, day.forward(17, 6), day.forward(6, 6), 24 in day, str(day * 2), 7 * day == Day(168)]
[6, 23, -1, 13, 0, False, '48', True]
>>> Day(0)
raises BadDay(0)
"""
CLOCKS = """
>>> from onelongturn.clocks import Clocks
>>> night = Clocks(day, (17, 5), (11, 11))
>>> [night.pieces, str(~night), night.many, 0 in night, (night + 7).pieces, night.first_from(25), (night & Clocks(day, (4, 11))).pieces, night.longest]
[((11, 11), (17, 5)), '6-10 12-16', 14, True, ((0, 12), (18, 18)), 25, ((4, 5), (11, 11)), 13]
>>> [str(Clocks(day)), str(Clocks(day, (3, 2))), list(Clocks(day, (22, 1)).each())]
['-', '0-23', [0, 1, 22, 23]]
>>> Clocks.read(day, "6-10 11-16")
raises BadText(0, 1)
"""
TRIPS = """
>>> from onelongturn.trips import Paused, Run, Stay, Trip
>>> p, q = Run("p", "a", 6, 2, "b"), Run("q", "b", 9, 2, "a")
>>> r, s = Run("r", "a", 12, 2, "b"), Run("s", "b", 15, 2, "a")
>>> [str(p), p.ready(5), Stay("w", "a", 6, 2)(5), str(q + 10), r < s, isinstance(Stay("w", "a", 6, 2), Paused), Trip.read("run p a 6 2 b") == p]
['run p a 6 2 b', 13, 8, 'run q b 19 2 a', True, False, True]
>>> Run("p", "a", 6, 0, "b")
raises BadTrip('takes')
"""
TABLES = """
>>> from onelongturn.tables import Pauses, Table
>>> table = Table(day, p, q, r, s)
>>> [table.names, table.places, [str(trip) for trip in table.between(9, 13)], "p" in table, str(table.moved(10, "p", "s")["s"]), table.without("p", "q").names]
[('p', 'q', 'r', 's'), ('a', 'b'), ['run q b 9 2 a', 'run r a 12 2 b'], True, 'run s b 1 2 a', ('r', 's')]
>>> [str(Pauses(a=2) + Pauses(b=1, a=1)), Pauses(a=2) <= Pauses(a=3), Pauses()["a"], Pauses.of({"a": 0}) == Pauses()]
['a 3 b 1', True, 0, True]
>>> table.without("p")
raises Unbalanced('a')
"""
CURVES = """
>>> from onelongturn.curves import Curve, pausing, stands, under_way
>>> curve = stands(table, None, "a")
>>> [curve.steps, curve[30], str(curve.where(1)), curve.total(0, 48), (curve + curve).greatest, [piece for piece in stands(table, None, "b")]]
[((0, 1), (6, 0), (11, 1), (12, 0), (17, 1)), 0, '11-11 17-5', 28, 2, [(0, 7, 0), (8, 8, 1), (9, 13, 0), (14, 14, 1), (15, 23, 0)]]
>>> [stands(table, Pauses(a=2), "a").steps, pausing(table, Pauses(a=2), "a").where(1).pieces, under_way(table)[6]]
[((0, 2), (6, 1), (12, 0), (13, 1), (19, 2)), ((11, 12), (17, 18)), 1]
"""
PLANS = """
>>> from onelongturn.plans import Plan
>>> long = Plan(table, Pauses(a=2), {"p": "q", "q": "r", "r": "s", "s": "p"})
>>> [long.vehicles, long.turns, long.wait("q"), long.days("q"), long.meet("q", "s"), long.spare("a"), long.is_one]
[2, (('p', 'q', 'r', 's'),), 23, 2, True, 0, True]
>>> both = long.swapped("q", "s")
>>> [both.vehicles, both.turns, both["q"], both.curve("a") == long.curve("a")]
[2, (('p', 'q'), ('r', 's')), 'p', True]
>>> walk = long.walk("q")
>>> [next(walk), next(walk), next(walk)]
[('q', 9, 13), ('r', 36, 38), ('s', 39, 43)]
>>> Plan(table, None, {"p": "q", "q": "s", "r": "p", "s": "r"})
raises BadPlan('q')
"""
FEWEST = """
>>> from onelongturn.fewest import Fewest, days_by, fewest, room, stock, under
>>> [fewest(table) == Fewest(1, {"a": 7, "b": 0}), fewest(table, Pauses(a=2)).number, fewest(table, Pauses(a=2)).cuts, stock(table, Pauses(a=2), "a"), under(table), room(table, Pauses(a=2), "a")]
[True, 2, {'a': 13, 'b': 0}, 2, 0, 2]
>>> [days_by(table, None, {"a": 7, "b": 0}), days_by(table, None, {"a": 0, "b": 0}), fewest(table.moved(5)).number]
[1, 0, 1]
"""
RULES = """
>>> from onelongturn.rules import FirstIn, LastIn, Named, Rule, plan_by
>>> [plan_by(table, Pauses(a=2), FirstIn()).follows["q"], plan_by(table, Pauses(a=2), LastIn()) == long, Named("s")(("q", "s"))]
['p', True, 1]
"""
COUNTS = """
>>> from onelongturn.counts import all_plans, number_of, plan_at, plans_count
>>> [plans_count(table, Pauses(a=2)), plan_at(table, Pauses(a=2), 1) == long, number_of(both), [len(plan) for plan in all_plans(table, Pauses(a=2))]]
[2, True, 0, [2, 1]]
"""
SWAPS = """
>>> from onelongturn.swaps import Merged, fewest_swaps, merged, swaps_to
>>> [merged(both).swaps in ((("q", "s"),), (("s", "q"),)), merged(both).plan == long, fewest_swaps(both, long), fewest_swaps(long, long), len(swaps_to(long, both))]
[True, True, 1, 0, 1]
"""
TURNS = """
>>> from onelongturn.turns import Apart, OneTurn, lots, one_turn, stretches
>>> [stretches(table, Pauses(a=2), "a"), stretches(table, None, "a"), lots(table, None), one_turn(table, Pauses(a=2)) == OneTurn(2, (), long)]
[((13, 19, 6, 12),), ((11, 12), (17, 6)), (('p', 'q', 'r', 's'),), True]
>>> loops = Table(day, Run("u", "a", 6, 24, "a"), Run("v", "a", 18, 24, "a"))
>>> found = one_turn(loops)
>>> [fewest(loops).number, lots(loops, None), lots(loops, None, ["a"]), found.number, found.taken, found.plan.turns, found.plan.spare("a")]
[2, (('u',), ('v',)), (('u', 'v'),), 3, ('a',), (('u', 'v'),), 1]
>>> [(fewest(loops, Pauses(a=m)).number, one_turn(loops, Pauses(a=m)).number) for m in (0, 1, 12, 13, 24)]
[(2, 3), (3, 3), (3, 3), (4, 5), (4, 5)]
>>> one_turn(loops + Table(day, Run("x", "c", 1, 2, "c"))) == Apart((("u", "v"), ("x",)))
True
"""
STAIRS = """
>>> from onelongturn.stairs import Above, Endless, Stair, above, alike, lateness, stair
>>> first = stair(table, "a")
>>> [first == Stair(24, 1, (2, 20), 2), first(0), first(2), first(24), first(26), first.longest_pause(2), first.longest_pause(0)]
[True, 1, 2, 3, 4, 19, -1]
>>> [stair(table, "b").rises, first - stair(table, "b"), stair(table, "b") - first, stair(table, "b") <= first]
[(2, 8), 1, 0, True]
>>> [lateness(table, None, {"a": 2, "b": 1}), lateness(table, Pauses(a=2), {"a": 2, "b": 0}), lateness(table, None, {"a": 0, "b": 5})]
[7, 1, -1]
>>> [above(table, table.moved(5)).number, above(table, loops) == Endless("b"), alike(table, table.moved(5))]
[0, True, True]
"""
SHIFTS = """
>>> from onelongturn.shifts import nearest, shifts
>>> [shifts(table, None, ["p", "q", "r", "s"]).steps, shifts(table, None, ["q"])[2], shifts(table, None, ["q"])[4], nearest(table, None, ["q"], 1), nearest(table, Pauses(a=2), ["r"], 1)]
[((0, 1),), 2, 2, 0, 1]
"""
ROUNDS = """
>>> from onelongturn.rounds import Rounds, rounds, unrolled
>>> turning = rounds(loops, Pauses(a=12))
>>> [turning == Rounds(3, 0, (3,)), turning.lots_of(3), turning.lots_of(10 ** 20), turning.vehicles_of(2), turning.vehicles_of(6), rounds(loops).vehicles_of(7), rounds(table).periods]
[True, 3, 1, 3, 4, 3, (1,)]
>>> [unrolled(loops, 2).names, str(unrolled(loops, 2)["vb"]), fewest(unrolled(loops, 2)).number]
[('ua', 'ub', 'va', 'vb'), 'run vb a 42 24 a', 2]
"""
STAYS = """
>>> from onelongturn.stays import MostStays, free, kept, most_stays
>>> [free(table, None, "a", 13).pieces, free(table, None, "a", 14).pieces, free(table, Pauses(a=2), "a", 6).pieces, kept(table, Pauses(a=2), "a", 6).pieces]
[((17, 17),), (), ((13, 6),), ((13, 6),)]
>>> [most_stays(table, None, "a", 3).number, most_stays(table, None, "a", 13).starts, most_stays(table, None, "a", 14).number, most_stays(loops, None, "a", 7, 1).number]
[4, (17,), 0, 3]
"""
BOARD = """
>>> from onelongturn.board import Board
>>> board = Board(table)
>>> board["r"] = Run("r", "a", 13, 2, "b")
>>> [board.fewest_now(), board.one_now(), board.pause("a", 2), board.fewest_now(), board.undo(), board.undo(), board.told_table() == table, board.deeds]
[1, 1, None, 1, True, True, True, 0]
>>> [board.drop("p"), board.is_level, board.fewest_now(), board.tried(lambda same: (same.drop("q"), same.fewest_now())), len(board)]
[None, False, None, (None, 1), 3]
>>> with board.trial() as same:
...     word = [same is board, same.drop("q"), len(same), same.deeds]
>>> [word, len(board), board.deeds]
[[True, None, 2, 2], 3, 1]
>>> board.told_table()
raises Unbalanced('a')
>>> board.minutes = 30
>>> [board.minutes, board.deeds, board.undo(), board.minutes]
[30, 2, True, 24]
>>> board.set_minutes(15)
raises OutOfDay('s')
"""
YARD = """
>>> from onelongturn.yard import Yard
>>> yard = Yard(table, Pauses(a=2), FirstIn(), {"a": 2, "b": 0})
>>> [len(yard), yard.day_on(), yard[0], yard.waiting("a"), yard.day_on({"q": 1}), yard.done("p"), yard.lived]
[2, None, (('p', 6, 8), ('q', 9, 13)), (0, 1), None, (0, 0), 2]
>>> yard.day_on({"p": 2})
raises Lacking('q')
>>> with yard.trial() as same:
...     word = [same.day_on(), same.lived]
>>> [word, yard.lived]
[[None, 3], 2]
"""
PAPERS = """
>>> from onelongturn.looker import shows_fewest, shows_stays, shows_turn
>>> from onelongturn.papers import fewest_paper, stays_paper, turn_paper
>>> fewest_paper(table, None)
('fewest', 1, (('a', 7), ('b', 0)), (('p', 'q'), ('q', 'r'), ('r', 's'), ('s', 'p')))
>>> [turn_paper(loops, None), shows_turn(loops, None, turn_paper(loops, None)), shows_turn(loops, None, ("one", 3, ("u", "v"), (("a", 0),), ()))]
[('one', 3, ('u', 'v'), (('a', 0),), (((), ('u',)),)), True, False]
>>> [shows_fewest(table, None, fewest_paper(table, Pauses(a=2))), shows_stays(table, None, "a", 14, 0, ("stays", 0, (), 1, (6, 16))), turn_paper(loops + Table(day, Run("x", "c", 1, 2, "c")), None)]
[False, True, ('apart', ('u', 'v'))]
"""
TEXTS = """
>>> from onelongturn.reader import read_pauses, read_plan, read_table
>>> from onelongturn.texts import write_pauses, write_plan, write_table
>>> write_table(table)
'day 24\\nrun p a 6 2 b\\nrun q b 9 2 a\\nrun r a 12 2 b\\nrun s b 15 2 a'
>>> [read_table(write_table(table)) == table, write_pauses(Pauses(b=3, a=2)), read_plan(write_plan(long)) == long]
[True, 'pauses a 2 b 3', True]
>>> read_table("day 24\\nrun p a 24 2 b")
raises BadText(1, 3)
>>> read_table("day 24\\nrun p a 6 2 b")
raises Unbalanced('a')
>>> read_pauses("pauses a 0")
raises BadText(0, 2)
"""
DESK = """
>>> from onelongturn.desk import Desk
>>> desk = Desk()
>>> desk.run("day 24", "run p a 6 2 b", "run q b 9 2 a", "fewest", "one", "turn", "stands a", "pause a 20", "fewest", "shift 3 q", "rounds 2", "undo", "plans")
['ok', '1', '2', '1', '1', 'p q', '11-5', 'ok', '2', '2', '3', 'ok', '1']
>>> desk.run("stock a", "room b", "free a 19", "drop q", "fewest")
raises Unbalanced('a')
>>> [desk("show"), len(desk)]
['run p a 6 2 b, run q b 9 2 a', 3]
>>> desk.ask("pause a")
raises BadLine(2)
"""
IN_ORDER = (DAYS, CLOCKS, TRIPS, TABLES, CURVES, FEWEST, PLANS, RULES, COUNTS, SWAPS, TURNS, STAIRS, SHIFTS, ROUNDS, STAYS,
            BOARD, YARD, PAPERS, TEXTS, DESK)


class TestExamples(Checks):
    def test_examples_in_their_order(self):
        names = {}
        for text in IN_ORDER:
            self.run_examples(text, names)

    @unittest.skipUnless(DOC.exists(), "the document is not here")
    def test_these_are_all_examples_word_for_word(self):
        blocks = re.findall(r"```\n(>>> .*?)```", DOC.read_text(encoding="utf-8"), re.DOTALL)
        self.assertEqual(sorted(blocks), sorted(text.lstrip("\n") for text in IN_ORDER))

    def test_the_note_on_touching_pieces(self):
        names = {}
        self.run_examples(DAYS + CLOCKS, names)
        self.run_examples('>>> Clocks.read(day, "0-3 20-23")\nraises BadText(0, 1)\n', names)
        self.run_examples('>>> [Clocks.read(day, "20-3").pieces]\n[((20, 3),)]\n', names)
