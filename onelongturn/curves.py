"""Curves: an integer for the minute of each clock, and those of a table."""

from onelongturn.asked import asked_pauses, check_place, check_table, ready_moment
from onelongturn.clocks import Clocks
from onelongturn.days import Day
from onelongturn.errors import BadAsk, BadNumber, Unlike
from onelongturn.kinds import is_int, is_moment
from onelongturn.trips import Paused


class Curve:
    """An integer for the minute of each clock of a day."""

    def __init__(self, day, steps):
        if not isinstance(day, Day):
            raise BadAsk("day")
        if not are_steps(day, steps):
            raise BadAsk("steps")
        self.day = day
        self.steps = fewest_steps(steps)
        self._spans = spans_under(day, self.steps)

    def __getitem__(self, at):
        if not is_moment(at):
            raise BadNumber(at)
        return height_at(self.steps, at % self.day.length)

    def __iter__(self):
        return iter(self._spans)

    def __eq__(self, other):
        return isinstance(other, Curve) and self.day == other.day and self.steps == other.steps

    def __add__(self, other):
        return curve_sum(self, other, 1)

    def __radd__(self, other):
        return curve_sum(self, other, 1)

    def __sub__(self, other):
        return curve_sum(self, other, -1)

    def __neg__(self):
        return curve_times(self, -1)

    def __mul__(self, other):
        return curve_times(self, other)

    def __rmul__(self, other):
        return curve_times(self, other)

    @property
    def least(self):
        """The least integer of the curve."""
        return min([int(step[1]) for step in self.steps])

    @property
    def greatest(self):
        """The greatest integer of the curve."""
        return max([int(step[1]) for step in self.steps])

    def moved(self, k):
        """The curve moved k minutes later, day after day."""
        if not is_int(k):
            raise BadNumber(k)
        length = self.day.length
        steps = [((clock + k) % length, number) for clock, number in self.steps]
        steps.append((0, self[-k % length]))
        return Curve(self.day, sorted(set(steps)))

    def where(self, number):
        """The Clocks at which the curve is at least this integer."""
        return Clocks.of(self.day, [(first, last) for first, last, height in self._spans if height >= number])

    def total(self, a, b):
        """The sum over the minutes of the moments from a to b - 1."""
        return total_before(self, b) - total_before(self, a)


def are_steps(day, value):
    """Whether any value is a list or tuple of tuples (clock, integer), the clocks ascending from 0 on."""
    if not isinstance(value, (list, tuple)) or len(value) == 0:
        return False
    if not all([is_step(day, step) for step in value]):
        return False
    ascend = all([value[at][0] < value[at + 1][0] for at in range(len(value) - 1)])
    return value[0][0] == 0 and ascend


def is_step(day, value):
    """Whether any value is a tuple (clock, integer)."""
    return isinstance(value, tuple) and len(value) == 2 and value[0] in day and is_int(value[1])


def fewest_steps(steps):
    """The tuple of the fewest steps of the same curve: without those that change nothing."""
    fewest = []
    for clock, number in steps:
        if not fewest or fewest[-1][1] != number:
            fewest.append((clock, number))
    return tuple(fewest)


def spans_under(day, steps):
    """The tuple of (first clock, last clock, integer) for each step."""
    ends = [step[0] - 1 for step in steps[1:]] + [day.length - 1]
    return tuple([(step[0], end, step[1]) for step, end in zip(steps, ends)])


def height_at(steps, clock):
    """The integer that steps tell for the minute of a clock."""
    height = 0
    for first, number in steps:
        if first <= clock:
            height = number
    return height


def running_steps(changes):
    """The steps of the curve that changes at clocks by numbers, from 0 ahead of clock 0 on; pairs in any order."""
    by_clock = {0: 0}
    for clock, number in changes:
        by_clock[clock] = by_clock.get(clock, 0) + number
    steps = []
    height = 0
    for clock in sorted(set(list(by_clock))):
        height = height + by_clock[clock]
        steps.append((clock, height))
    return steps


def changes_of(steps, factor):
    """The pairs of clocks and changes of a curve that is multiplied by a factor."""
    ahead = [0] + [step[1] for step in steps[:-1]]
    return [(step[0], (step[1] - before) * factor) for step, before in zip(steps, ahead)]


def curve_sum(curve, other, factor):
    """A curve and a factor times another one, or times an integer; raises BadAsk("curve") for any other value."""
    if isinstance(other, Curve):
        if not curve.day == other.day:
            raise Unlike("day")
        return Curve(curve.day, running_steps(changes_of(curve.steps, 1) + changes_of(other.steps, factor)))
    if not is_int(other):
        raise BadAsk("curve")
    return Curve(curve.day, [(clock, number + other * factor) for clock, number in curve.steps])


def curve_times(curve, k):
    """A curve k times; raises BadAsk("curve") for any value that is no integer."""
    if not is_int(k):
        raise BadAsk("curve")
    return Curve(curve.day, [(clock, number * k) for clock, number in curve.steps])


def total_before(curve, moment):
    """The sum over the minutes from moment 0 to the one ahead of a moment; below 0 it is taken away."""
    length = curve.day.length
    clock = moment % length
    whole = sum([(last + 1 - first) * number for first, last, number in curve])
    ahead = [(first, min(int(last) + 1, clock), number) for first, last, number in curve if first < clock]
    return moment // length * whole + sum([(end - first) * number for first, end, number in ahead])


def covering(day, times):
    """How many of these times cover each minute, if each comes again day after day.

    A time is a tuple of the moment at which it begins and how many minutes it has, more than a day too.
    """
    changes = []
    for begin, minutes in times:
        first = begin % day.length
        end = first + minutes % day.length
        changes.append((0, minutes // day.length))
        changes.append((first, 1))
        if end < day.length:
            changes.append((end, -1))
        else:
            changes.append((0, 1))
            changes.append((end - day.length, -1))
    return Curve(day, running_steps(changes))


def stands(table, pauses, place):
    """The least curve at a place: how many vehicles stand there, if none is spare."""
    check_table(table)
    pauses = asked_pauses(pauses)
    check_place(table, place)
    length = table.day.length
    leaving = [(trip.leaves, -1) for trip in table if trip.start == place]
    coming = [(ready_moment(trip, pauses) % length, 1) for trip in table if trip.goal == place]
    curve = Curve(table.day, running_steps(leaving + coming))
    return curve - curve.least


def pausing(table, pauses, place):
    """How many vehicles pause at a place in each minute."""
    check_table(table)
    pauses = asked_pauses(pauses)
    check_place(table, place)
    runs = [trip for trip in table if isinstance(trip, Paused) and trip.goal == place]
    return covering(table.day, [(run.leaves + run.takes, pauses[place]) for run in runs])


def under_way(table):
    """How many trips, runs and stays, are under way in each minute."""
    check_table(table)
    return covering(table.day, [(trip.leaves, trip.takes) for trip in table])
