"""Plans without spare vehicles: the queues at the places, each lived from the begin of its place on."""

from onelongturn.asked import ready_moment
from onelongturn.curves import stands
from onelongturn.errors import BadAsk, Spare
from onelongturn.plans import Plan


def begin_of(curve):
    """The least clock such that nobody stands, by this least curve, in the minute ahead of it."""
    if curve[-1] == 0:
        return 0
    return [first + 1 for first, _, height in curve if height == 0][0]


def queue_events(table, pauses, place):
    """The list of (clock, names that are ready, names that leave) at a place, from its begin on, names ascending."""
    length = table.day.length
    begin = begin_of(stands(table, pauses, place))
    ready = {}
    leaving = {}
    for trip in list(table):
        if trip.goal == place:
            ready.setdefault((ready_moment(trip, pauses) - begin) % length, []).append(trip.name)
        if trip.start == place:
            leaving.setdefault((trip.leaves - begin) % length, []).append(trip.name)
    behind = sorted(set(list(ready) + list(leaving)))
    return [((begin + step) % length, ready.get(step, []), leaving.get(step, [])) for step in behind]


def picked_rows(table, pauses, pick):
    """The choices of a plan, in their order: tuples (name that leaves, name that it takes, choice, how many stood).

    pick tells the choice by the tuple of the names that stand and the name that leaves.
    """
    rows = []
    for place in table.places:
        waiting = []
        for _, ready, leaving in queue_events(table, pauses, place):
            waiting = waiting + ready
            for name in leaving:
                choice = pick(tuple(waiting), name)
                rows.append((name, waiting[choice], choice, len(waiting)))
                waiting = waiting[:choice] + waiting[choice + 1:]
    return rows


def picked_plan(table, pauses, pick):
    """The plan in which each trip that leaves takes the one that pick tells, as for picked_rows."""
    rows = picked_rows(table, pauses, pick)
    return Plan(table, pauses, {taken: name for name, taken, choice, size in rows})


def check_lean(plan):
    """Raises BadAsk("plan") for any value that is no Plan, Spare(place) with the least place with a spare vehicle."""
    if not isinstance(plan, Plan):
        raise BadAsk("plan")
    for place in plan.table.places:
        if plan.spare(place) > 0:
            raise Spare(place)
