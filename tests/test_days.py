"""Points [2] and [3], days.py."""

from onelongturn.clocks import Clocks
from onelongturn.curves import Curve
from onelongturn.days import Day
from onelongturn.errors import BadAsk, BadDay, BadNumber
from tests.support import ANY_VALUES, Checks, any_but, integer, moment

LENGTHS = (1, 2, 3, 24, 1440, 10 ** 12 - 1, 10 ** 12)
MOMENTS = (0, 1, -1, 5, -5, 23, 24, 25, -24, -25, 10 ** 12, -(10 ** 12), 10 ** 60 - 1, -(10 ** 60 - 1))


class TestDay(Checks):
    def test_length(self):
        self.same(Day.MOST, 10 ** 12)
        for length in LENGTHS:
            self.same(Day(length).length, length)
            self.same(Day(length=length).length, length)
            self.same(str(Day(length)), str(length))
            self.same(Day(length).MOST, 10 ** 12)

    def test_no_length(self):
        for value in any_but(lambda value: integer(value) and 1 <= value <= 10 ** 12) + [0, -1, 10 ** 12 + 1]:
            self.raises(BadDay(value), Day, value)

    def test_clocks_and_days_of_moments(self):
        for length in LENGTHS:
            for x in MOMENTS:
                self.same(x % Day(length), x % length)
                self.same(x // Day(length), x // length)

    def test_no_moment(self):
        for length in (1, 24, 10 ** 12):
            day = Day(length)
            for x in any_but(lambda value: moment(value) or isinstance(value, (str, Day))):
                self.raises(BadNumber(x), lambda: x % day)
                self.raises(BadNumber(x), lambda: x // day)
            for x in (10 ** 60, -(10 ** 60)):
                self.raises(BadNumber(x), lambda: x % day)
                self.raises(BadNumber(x), lambda: x // day)

    def test_forward(self):
        for length in (1, 2, 5):
            day = Day(length)
            for a in range(-7, 8):
                for b in range(-7, 8):
                    wait = next(wait for wait in range(length) if (a + wait) % length == b % length)
                    self.same(day.forward(a, b), wait)
                    self.same(day.forward(b=b, a=a), wait)
        for length in LENGTHS:
            for a in MOMENTS:
                for b in MOMENTS:
                    self.same(Day(length).forward(a, b), (b % length - a % length) % length)

    def test_forward_without_moments(self):
        day = Day(24)
        wrong = any_but(moment) + [10 ** 60, -(10 ** 60)]
        for value in wrong:
            self.raises(BadNumber(value), day.forward, value, 3)
            self.raises(BadNumber(value), day.forward, 3, value)
            for other in wrong:
                self.raises(BadNumber(value), day.forward, value, other)

    def test_longer_days(self):
        for length in (1, 2, 24, 10 ** 6):
            for k in (1, 2, 3, 10 ** 6):
                self.same((Day(length) * k).length, length * k)
                self.same((k * Day(length)).length, length * k)
        self.same((Day(1) * 10 ** 12).length, 10 ** 12)
        self.same((10 ** 12 * Day(1)).length, 10 ** 12)

    def test_no_longer_day(self):
        for value in any_but(lambda value: integer(value) and 1 <= value <= 10 ** 12) + [0, -1, 10 ** 12 + 1]:
            self.raises(BadNumber(value), lambda: Day(1) * value)
            if not isinstance(value, (Day, Curve)):
                self.raises(BadNumber(value), lambda: value * Day(1))
        for k in (2, 10 ** 12, 10 ** 69):
            self.raises(BadNumber(k), lambda: Day(10 ** 12) * k)
            self.raises(BadNumber(k), lambda: k * Day(10 ** 12))
            self.raises(BadNumber(k), lambda: k * Day(5 * 10 ** 11 + 1))

    def test_the_left_one_tells_the_error(self):
        day, curve, clocks = Day(24), Curve(Day(24), [(0, 1)]), Clocks(Day(24), (3, 5))
        self.raises(BadNumber(curve), lambda: day * curve)
        self.raises(BadAsk("curve"), lambda: curve * day)
        self.raises(BadNumber(clocks), lambda: day * clocks)
        self.raises(BadNumber(clocks), lambda: clocks * day)
        self.raises(BadAsk("curve"), lambda: curve + clocks)
        self.raises(BadNumber(curve), lambda: clocks + curve)
        self.raises(BadNumber(curve), lambda: clocks - curve)
        self.raises(BadNumber(day), lambda: day + clocks)
        self.raises(BadAsk("curve"), lambda: day + curve)

    def test_whether_a_value_is_a_clock(self):
        for length in LENGTHS:
            day = Day(length)
            self.same([0 in day, length - 1 in day, length in day, -1 in day], [True, True, False, False])
            for value in ANY_VALUES:
                self.same(value in day, integer(value) and 0 <= value < length)
        self.same([True in Day(24), False in Day(24)], [False, False])

    def test_equal_days(self):
        for length in LENGTHS:
            for other in LENGTHS:
                self.same(Day(length) == Day(other), length == other)
                self.same(Day(length) != Day(other), length != other)
        for value in any_but(lambda value: isinstance(value, Day)):
            self.same(Day(24) == value, False)
            self.same(Day(24) != value, True)
        self.same(Day(1) == True, False)

    def test_a_day_never_changes(self):
        day = Day(24)
        day * 2
        3 * day
        self.raises(BadNumber(0), lambda: day * 0)
        self.same(day.length, 24)
        self.same(Clocks(day).day.length, 24)
