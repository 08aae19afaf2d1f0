"""Rounds: the table told for several days as one long day, and its turns for all numbers of days."""

from math import gcd

from onelongturn.asked import asked_pauses, check_table, ready_moment
from onelongturn.days import Day
from onelongturn.errors import BadAsk, BadName, BadNumber
from onelongturn.fewest import fewest_number
from onelongturn.kinds import LONGEST_NAME, is_int
from onelongturn.lean import queues_of
from onelongturn.meeting import parts_of, stretch_rows
from onelongturn.tables import Table
from onelongturn.trips import retold
from onelongturn.turns import linked_names, taken_places

MOST_DAYS = 12
DAY_LETTERS = "abcdefghijkl"


class Rounds:
    """The fewest vehicles, how many more one turn wants, and the periods of the lots."""

    def __init__(self, fewest, more, periods):
        self.fewest = fewest
        self.more = more
        self.periods = periods

    def __eq__(self, other):
        if not isinstance(other, Rounds):
            return False
        return self.fewest == other.fewest and self.more == other.more and self.periods == other.periods

    def lots_of(self, k):
        """How many lots the round of k days has."""
        check_days(k)
        return sum([gcd(period, k) for period in self.periods])

    def vehicles_of(self, k):
        """The fewest vehicles of one turn of the round of k days, None if there is none."""
        check_days(k)
        if self.more is None:
            return None
        if self.more == 0 and gcd(self.periods[0], k) > 1:
            return self.fewest + 1
        return self.fewest + self.more


def rounds(table, pauses=None):
    """How the rounds of a table turn, for all numbers of days."""
    check_table(table)
    if len(table) == 0:
        raise BadAsk("table")
    told = asked_pauses(pauses)
    taken = taken_places(table, told)
    more = None if taken is None else len(taken)
    return Rounds(fewest_number(table, told), more, periods_of(table, told))


def unrolled(table, k):
    """The round of k days as a table: the trip x of day 0, 1, .. is named xa, xb, .."""
    check_table(table)
    if not is_int(k) or not 1 <= k <= MOST_DAYS:
        raise BadNumber(k)
    for name in table.names:
        if len(name) == LONGEST_NAME:
            raise BadName(name)
    length = table.day.length
    day = Day(length * k)
    return Table.of(day, [on_day(trip, at, length) for at in range(k) for trip in table])


def on_day(trip, at, length):
    """The trip of a round that is run on the day of this index."""
    return retold(trip, trip.name + DAY_LETTERS[at], trip.leaves + at * length, trip.takes)


def check_days(k):
    """Raises BadNumber(k) for any value that is no integer from 1 on."""
    if not is_int(k) or k < 1:
        raise BadNumber(k)


def periods_of(table, pauses):
    """The tuple of the periods of the lots, in their order."""
    queues = queues_of(table, pauses)
    first_at = {place: first_clocks(queue) for place, queue in zip(table.places, queues)}
    steps = {trip.name: step_of(trip, pauses, first_at, table.day.length) for trip in table}
    parts = parts_of(table.names, linked_names(queues))
    return tuple([period_of([steps[name] for name in part]) for part in parts])


def first_clocks(queue):
    """The dict from each event clock of a place to the first one of its stretch."""
    return {event[0]: events[0][0] for events in stretch_rows(queue) for event in events}


def step_of(trip, pauses, first_at, length):
    """The stretches from which and to which a trip leads, as pairs (place, first clock), and the difference of days."""
    ready = ready_moment(trip, pauses)
    begin = first_at[trip.start][trip.leaves]
    end = first_at[trip.goal][ready % length]
    # A stretch over midnight belongs to the day on which it begins, so its days change at its first clock.
    days = (ready - end) // length - (trip.leaves - begin) // length
    return ((trip.start, begin), (trip.goal, end), days)


def period_of(steps):
    """The greatest common divisor of the sums of days over all closed walks of steps that hang together."""
    # As many steps lead to a stretch as from it, so that forward ones alone reach all stretches.
    reached = {steps[0][0]: 0}
    for _ in steps:
        for begin, end, days in steps:
            if begin in reached and end not in reached:
                reached[end] = reached[begin] + days
    period = 0
    for begin, end, days in steps:
        period = gcd(period, reached[begin] + days - reached[end])
    return period
