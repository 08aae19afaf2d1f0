"""Stairs: the stock of a place for all pauses, how two tables differ for all of them, and how late all may be."""

from onelongturn.asked import asked_pauses, check_place, check_stocks, check_table, check_tables
from onelongturn.errors import BadAsk, BadNumber, Unlike
from onelongturn.fewest import under
from onelongturn.kinds import is_int
from onelongturn.tables import Pauses
from onelongturn.trips import Paused


class Stair:
    """A number for each pause, which rises by so many steps in each length."""

    def __init__(self, length, base, rises, step):
        self.length = length
        self.base = base
        self.rises = rises
        self.step = step

    def __call__(self, m):
        if not is_int(m) or m < 0:
            raise BadNumber(m)
        return value_at(self, m)

    def longest_pause(self, number):
        """The greatest pause at which the stair is at most this number; None if at all pauses, -1 if at none."""
        if self.base > number:
            return -1
        if self.step == 0:
            return None
        above_base = number - self.base
        return above_base // self.step * self.length + self.rises[above_base % self.step] - 1

    def __sub__(self, other):
        check_stair(self, other)
        found = widest(self, other)
        return None if found is None else found[0]

    def __le__(self, other):
        check_stair(self, other)
        found = widest(self, other)
        return found is not None and found[0] <= 0

    def __eq__(self, other):
        return isinstance(other, Stair) and parts_of_stair(self) == parts_of_stair(other)


class Above:
    """By how many vehicles at most one table needs more than another one, and pauses with which it does."""

    def __init__(self, number, pauses):
        self.number = number
        self.pauses = pauses

    def __eq__(self, other):
        return isinstance(other, Above) and self.number == other.number and self.pauses == other.pauses


class Endless:
    """A place at which a longer pause makes one table need more and more vehicles than another one."""

    def __init__(self, place):
        self.place = place

    def __eq__(self, other):
        return isinstance(other, Endless) and self.place == other.place


def stair(table, place):
    """The stock of a place as a function of its pause."""
    check_table(table)
    check_place(table, place)
    length = table.day.length
    runs = [trip for trip in table if trip.goal == place and isinstance(trip, Paused)]
    coming = [(run.leaves + run.takes) % length for run in runs]
    lacks = lacks_without_pause(table, place)
    risers = {}
    for clock in list(lacks):
        for arrival in list(coming):
            # From this pause on the run comes in too late for whoever leaves at the clock on the same day.
            risers.setdefault((clock - arrival) % length + 1, []).append(clock)
    base = most_of(lacks)
    top = base
    rises = []
    for m in sorted(set(list(risers))):
        for clock in risers[m]:
            lacks[clock] = lacks[clock] + 1
            if lacks[clock] > top:
                top = lacks[clock]
                rises.append(m)
    return Stair(length, base, tuple(rises), len(rises))


def above(one, other):
    """By how many vehicles at most one table needs more than another one, over all pauses."""
    check_tables(one, other)
    if not one.day == other.day:
        raise Unlike("day")
    number = under(one) - under(other)
    longest = {}
    for place in sorted(set(one.places + other.places)):
        found = widest(stair_or_flat(one, place), stair_or_flat(other, place))
        if found is None:
            return Endless(place)
        number = number + found[0]
        longest[place] = found[1]
    return Above(number, Pauses.of(longest))


def alike(one, other):
    """Whether two tables need equally many vehicles for all pauses."""
    most = above(one, other)
    least = above(other, one)
    return isinstance(most, Above) and isinstance(least, Above) and most.number <= 0 and least.number <= 0


def lateness(table, pauses, stocks):
    """By how many minutes each run may be late with these stocks; -1 if they do not do, None if there is no bound."""
    check_table(table)
    told = asked_pauses(pauses)
    check_stocks(table, stocks)
    borne = []
    for place in table.places:
        longest = stair(table, place).longest_pause(stocks[place])
        if longest is not None:
            borne.append(longest - told[place])
    if not borne:
        return None
    least = min([int(minutes) for minutes in borne])
    return least if least >= 0 else -1


def lacks_without_pause(table, place):
    """For each clock of leaving: how many leave up to it, less those that come in, or end a stay, up to it."""
    length = table.day.length
    leaves = [trip.leaves for trip in table if trip.start == place]
    ends = [(trip.leaves + trip.takes) % length for trip in table if trip.goal == place]
    return {clock: count_to(leaves, clock) - count_to(ends, clock) for clock in leaves}


def count_to(clocks, clock):
    """How many of these clocks are not behind this one."""
    return len([other for other in clocks if other <= clock])


def most_of(lacks):
    """The greatest number of a dict."""
    return max([int(number) for number in lacks.values()])


def value_at(steps, m):
    """The value of a stair at a pause from 0 on."""
    rest = m % steps.length
    return steps.base + m // steps.length * steps.step + count_to(steps.rises, rest)


def widest(one, other):
    """The greatest difference of two stairs and a pause below the length that has it; None if nothing bounds it."""
    if one.step > other.step:
        return None
    most = value_at(one, 0) - value_at(other, 0)
    pause = 0
    for m in one.rises:
        # The difference only grows where the first stair rises, and at a whole length it is no greater than at 0.
        if value_at(one, m) - value_at(other, m) > most:
            most = value_at(one, m) - value_at(other, m)
            pause = m
    return (most, pause)


def check_stair(one, other):
    """Raises BadAsk("stair") for any value that is no Stair, Unlike("length") for one of another length."""
    if not isinstance(other, Stair):
        raise BadAsk("stair")
    if one.length != other.length:
        raise Unlike("length")


def parts_of_stair(steps):
    """What a stair is made of."""
    return (steps.length, steps.base, steps.rises, steps.step)


def stair_or_flat(table, place):
    """The stair of a place, 0 for all pauses if the table lacks it."""
    if place in table.places:
        return stair(table, place)
    return Stair(table.day.length, 0, (), 0)
