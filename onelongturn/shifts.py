"""Shifts: the fewest vehicles if some trips leave later, for all shifts."""

from onelongturn.asked import asked_pauses, check_table, ready_moment
from onelongturn.curves import Curve, running_steps
from onelongturn.errors import BadAsk


def shifts(table, pauses, names):
    """The Curve of the fewest vehicles if the trips of these names leave so many minutes later."""
    check_table(table)
    told = asked_pauses(pauses)
    if not isinstance(names, (list, tuple)):
        raise BadAsk("names")
    table.check_names(names)
    leaving = [(trip.start, trip.leaves, trip.name in names) for trip in table]
    ready = [(trip.goal, ready_moment(trip, told), trip.name in names) for trip in table]
    clocks = turning_clocks(table.day.length, leaving, ready)
    return Curve(table.day, [(clock, vehicles_with(table, leaving, ready, clock)) for clock in clocks])


def nearest(table, pauses, names, number):
    """The least shift, of any sign, with which this many vehicles are enough; None if there is none."""
    spans = [span for span in shifts(table, pauses, names) if span[2] <= number]
    if not spans:
        return None
    later = spans[0][0]
    earlier = table.day.length - spans[-1][1]
    return later if later <= earlier else -earlier


def turning_clocks(length, leaving, ready):
    """The ascending shifts at which the number of vehicles can change; events are (place, moment, whether moved)."""
    clocks = [0]
    for start, leaves, moves in leaving:
        for goal, comes, moves_too in ready:
            if start == goal and moves and not moves_too:
                clocks.append((comes - leaves) % length)
            if start == goal and moves_too and not moves:
                # Whoever is ready in the minute of leaving can still leave, so it is too late one minute behind it.
                clocks.append((leaves - comes + 1) % length)
    return sorted(set(clocks))


def vehicles_with(table, leaving, ready, shift):
    """The fewest vehicles if the events that are moved come so many minutes later."""
    length = table.day.length
    gone = [(place, moment + shift if moves else moment) for place, moment, moves in leaving]
    back = [(place, moment + shift if moves else moment) for place, moment, moves in ready]
    number = sum([moment // length for place, moment in back]) - sum([moment // length for place, moment in gone])
    for place in table.places:
        changes = [(moment % length, -1) for at, moment in gone if at == place]
        changes = changes + [(moment % length, 1) for at, moment in back if at == place]
        # By cuts at clock 0 those are missing that stand ahead of it.
        number = number - min([int(step[1]) for step in running_steps(changes)])
    return number
