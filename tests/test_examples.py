"""The examples of the document, word for word."""

from tests.support import Checks

DAYS = """
>>> from onelongturn.days import Day
>>> day = Day(24)
>>> [30 % day, -1 % day, -1 // day, day.forward(17, 6), day.forward(6, 6), 24 in day, str(day * 2), 7 * day == Day(168)]
[6, 23, -1, 13, 0, False, '48', True]
>>> Day(0)
raises BadDay(0)
"""
CLOCKS = """
>>> from onelongturn.clocks import Clocks
>>> night = Clocks(day, (17, 5), (11, 11))
>>> [night.pieces, str(~night), night.many, 0 in night, (night + 7).pieces, night.first_from(25), (night & Clocks(day, (4, 11))).pieces, night.longest]
[((11, 11), (17, 5)), '6-10 12-16', 14, True, ((0, 12), (18, 18)), 25, ((4, 5), (11, 11)), 13]
>>> [str(Clocks(day)), str(Clocks(day, (3, 2))), list(Clocks(day, (22, 1)).each())]
['-', '0-23', [0, 1, 22, 23]]
>>> Clocks.read(day, "6-10 11-16")
raises BadText(0, 1)
"""
TRIPS = """
>>> from onelongturn.trips import Paused, Run, Stay, Trip
>>> p, q = Run("p", "a", 6, 2, "b"), Run("q", "b", 9, 2, "a")
>>> r, s = Run("r", "a", 12, 2, "b"), Run("s", "b", 15, 2, "a")
>>> [str(p), p.ready(5), Stay("w", "a", 6, 2)(5), str(q + 10), r < s, isinstance(Stay("w", "a", 6, 2), Paused), Trip.read("run p a 6 2 b") == p]
['run p a 6 2 b', 13, 8, 'run q b 19 2 a', True, False, True]
>>> Run("p", "a", 6, 0, "b")
raises BadTrip('takes')
"""


class TestExamples(Checks):
    def test_examples_in_their_order(self):
        names = {}
        for text in (DAYS, CLOCKS, TRIPS):
            self.run_examples(text, names)

    def test_the_note_on_touching_pieces(self):
        names = {}
        self.run_examples(DAYS + CLOCKS, names)
        self.run_examples('>>> Clocks.read(day, "0-3 20-23")\nraises BadText(0, 1)\n', names)
        self.run_examples('>>> [Clocks.read(day, "20-3").pieces]\n[((20, 3),)]\n', names)
