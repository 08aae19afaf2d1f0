"""Stays at no cost: when a vehicle can be held for a while, and the most such stays a day."""

from onelongturn.asked import asked_pauses, check_place, check_table
from onelongturn.clocks import Clocks
from onelongturn.curves import stands
from onelongturn.errors import BadAsk, BadNumber, TooMany
from onelongturn.kinds import is_int, is_number_from_one
from onelongturn.lean import day_events, lived_events, queue_events
from onelongturn.meeting import goals_of, least_taken, parts_of, stretch_names
from onelongturn.rings import cheapest_ring
from onelongturn.turns import taken_places

MOST_SPARE = 40
MOST_MINUTES = 2000
MOST_STAYS = 2000
# No trip has this name.
NEW_STAY = ""


class MostStays:
    """The most stays of a day, when they begin, and a row of clocks that shows that there are no more."""

    def __init__(self, number, starts, rounds, row):
        self.number = number
        self.starts = starts
        self.rounds = rounds
        self.row = row

    def __eq__(self, other):
        if not isinstance(other, MostStays):
            return False
        if self.number != other.number or self.starts != other.starts:
            return False
        return self.rounds == other.rounds and self.row == other.row


def free(table, pauses, place, takes):
    """The Clocks at which a stay more of so many minutes at a place costs no vehicle."""
    curve = stands(table, pauses, place)
    if not is_number_from_one(takes):
        raise BadNumber(takes)
    day = table.day
    times = [(first, (last - first) % day.length + 1) for first, last in curve.where(1)]
    # Nobody stands all day long by the least curve, so no time is a whole day.
    return Clocks.of(day, [(first, (first + many - takes) % day.length) for first, many in times if many >= takes])


def kept(table, pauses, place, takes):
    """The Clocks at which a stay more costs no vehicle, neither of all plans nor of those of one turn."""
    check_table(table)
    if len(table) == 0:
        raise BadAsk("table")
    found = free(table, pauses, place, takes)
    told = asked_pauses(pauses)
    taken = taken_places(table, told)
    if taken is None or not found:
        return Clocks(table.day)
    length = table.day.length
    events = day_events(table, told, place)
    linked = links_elsewhere(table, told, place)
    pieces = []
    clocks = turning_clocks(length, [event[0] for event in events], takes)
    for first, behind in zip(clocks, clocks[1:] + [length]):
        if first in found:
            queue = lived_events(events_with_stay(events, first, (first + takes) % length))[1]
            if len(taken) == many_taken(table, place, linked + stretch_names(queue)):
                pieces.append((first, behind - 1))
    return Clocks.of(table.day, pieces)


def most_stays(table, pauses, place, takes, spare=0):
    """The most stays of so many minutes at a place each day under the least curve and some spare vehicles."""
    heights = heights_with(table, pauses, place, takes, spare)
    total, times, row, reached = cheapest_ring(heights, takes)
    number = total // times
    if number > MOST_STAYS:
        raise TooMany("stays", MOST_STAYS)
    return MostStays(number, starts_of(reached, times, number), times, row)


def heights_with(table, pauses, place, takes, spare):
    """The list of how many stand in each minute by the least curve, with the spare ones.

    Raises all errors of most_stays but that of too many stays.
    """
    curve = stands(table, pauses, place)
    if not is_int(takes) or not 1 <= takes <= table.day.length:
        raise BadNumber(takes)
    if not is_int(spare) or not 0 <= spare <= MOST_SPARE:
        raise BadNumber(spare)
    if table.day.length > MOST_MINUTES:
        raise TooMany("minutes", MOST_MINUTES)
    return [number + spare for first, last, number in curve for minute in range(first, last + 1)]


def starts_of(reached, times, number):
    """The tuple of the clocks at which so many stays begin a day, by what the minutes cost, told that many times.

    As many begin up to a minute as it costs, rounded down, but no more than the number behind those up to clock 0: so
    each constraint between two minutes holds between the rounded ones, and over midnight, too.
    """
    upto = [cost // times for cost in reached]
    top = upto[0] + number
    starts = [0 for _ in range(top - min(int(upto[-1]), top))]
    for clock in range(1, len(upto)):
        more = min(int(upto[clock]), top) - min(int(upto[clock - 1]), top)
        starts = starts + [clock for _ in range(more)]
    return tuple(starts)


def turning_clocks(length, clocks, takes):
    """The ascending clocks of leaving at which the order of a stay's two ends and the event clocks can change."""
    turning = [0]
    for clock in clocks:
        for at in (clock, clock - takes):
            turning.append(at % length)
            turning.append((at + 1) % length)
    return sorted(set(turning))


def links_elsewhere(table, pauses, place):
    """The finest parts of the names by the stretches of all places but this one."""
    others = [other for other in table.places if other != place]
    groups = [group for other in others for group in stretch_names(queue_events(table, pauses, other))]
    return [list(part) for part in parts_of(table.names, groups)]


def events_with_stay(events, leaves, end):
    """The events of a place, as day_events tells them, with one stay more."""
    ready = {event[0]: event[1] for event in events}
    leaving = {event[0]: event[2] for event in events}
    ready[end] = ready.get(end, []) + [NEW_STAY]
    leaving[leaves] = leaving.get(leaves, []) + [NEW_STAY]
    clocks = sorted(set(list(ready) + list(leaving)))
    return [(clock, ready.get(clock, []), leaving.get(clock, [])) for clock in clocks]


def many_taken(table, place, groups):
    """How many places must be taken for one lot, if a stay more is at a place; groups tells what its lots link."""
    goals = goals_of(table)
    goals[NEW_STAY] = place
    return len(least_taken(goals, parts_of((NEW_STAY,) + table.names, groups)))
