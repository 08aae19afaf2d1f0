"""Plans without spare vehicles: the queues at the places, each lived from the begin of its place on."""

from onelongturn.errors import BadAsk, Spare
from onelongturn.plans import Plan


def day_events(table, pauses, place):
    """The list of (clock, names that are ready, names that leave) at a place, clocks and names ascending."""
    length = table.day.length
    pause = pauses[place]
    ready = {}
    leaving = {}
    for trip in list(table):
        if trip.goal == place:
            ready.setdefault(trip.ready(pause) % length, []).append(trip.name)
        if trip.start == place:
            leaving.setdefault(trip.leaves, []).append(trip.name)
    clocks = sorted(set(list(ready) + list(leaving)))
    return [(clock, ready.get(clock, []), leaving.get(clock, [])) for clock in clocks]


def lived_events(events):
    """The begin of a place by its events, and the list of these from the begin on, each with how many stand then."""
    height = 0
    heights = []
    for clock, ready, leaving in events:
        height = height + len(ready) - len(leaving)
        heights.append(height)
    least = min([int(number) for number in heights])
    rows = [(event[0], event[1], event[2], number - least) for event, number in zip(events, heights)]
    if least == 0:
        # As many are ready as leave, so behind the last event of the day nobody stands then.
        return (0, rows)
    behind = heights.index(least) + 1
    return (rows[behind - 1][0] + 1, rows[behind:] + rows[:behind])


def begin_of(table, pauses, place):
    """The least clock such that nobody stands, by the least curve, in the minute ahead of it."""
    return lived_events(day_events(table, pauses, place))[0]


def queue_events(table, pauses, place):
    """The list of (clock, names that are ready, names that leave, how many stand then) at a place, from its begin on.

    Names ascend.
    """
    return lived_events(day_events(table, pauses, place))[1]


def queues_of(table, pauses):
    """The events of each place, by the places."""
    return [queue_events(table, pauses, place) for place in table.places]


def picked_rows(queues, pick):
    """The choices of a plan, in their order: tuples (name that leaves, name that it takes, choice, how many stood).

    pick tells the choice by the tuple of the names that stand and the name that leaves.
    """
    rows = []
    for events in queues:
        waiting = []
        for clock, ready, leaving, stand in events:
            waiting = waiting + ready
            for name in leaving:
                choice = pick(tuple(waiting), name)
                rows.append((name, waiting[choice], choice, len(waiting)))
                waiting = waiting[:choice] + waiting[choice + 1:]
    return rows


def picked_follows(queues, pick):
    """The next trips of the plan in which each trip that leaves takes the one that pick tells, as for picked_rows."""
    return {taken: name for name, taken, choice, size in picked_rows(queues, pick)}


def picked_plan(table, pauses, pick):
    """The plan in which each trip that leaves takes the one that pick tells, as for picked_rows."""
    return Plan(table, pauses, picked_follows(queues_of(table, pauses), pick))


def check_lean(plan):
    """Raises BadAsk("plan") for any value that is no Plan, Spare(place) with the least place with a spare vehicle."""
    if not isinstance(plan, Plan):
        raise BadAsk("plan")
    for place in plan.table.places:
        if plan.spare(place) > 0:
            raise Spare(place)
