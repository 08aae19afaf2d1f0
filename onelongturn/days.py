"""The day that comes again and again."""

from onelongturn.errors import BadDay, BadNumber
from onelongturn.kinds import is_int, is_moment, is_number_from_one


class Day:
    """A day of so many minutes."""

    MOST = 1000000000000

    def __init__(self, length):
        if not is_number_from_one(length):
            raise BadDay(length)
        self.length = length

    def __rmod__(self, other):
        if not is_moment(other):
            raise BadNumber(other)
        return other % self.length

    def __rfloordiv__(self, other):
        if not is_moment(other):
            raise BadNumber(other)
        return other // self.length

    def forward(self, a, b):
        """The least number of minutes from moment a to one with the clock of b."""
        if not is_moment(a):
            raise BadNumber(a)
        if not is_moment(b):
            raise BadNumber(b)
        return (b - a) % self.length

    def __mul__(self, other):
        return times_as_long(self, other)

    def __rmul__(self, other):
        return times_as_long(self, other)

    def __contains__(self, x):
        return is_int(x) and 0 <= x < self.length

    def __eq__(self, other):
        return isinstance(other, Day) and self.length == other.length

    def __str__(self):
        return str(self.length)


def times_as_long(day, k):
    """A day k times as long; raises BadNumber(k) for any value by which there is none."""
    if not is_int(k) or not is_number_from_one(day.length * k):
        raise BadNumber(k)
    return Day(day.length * k)
