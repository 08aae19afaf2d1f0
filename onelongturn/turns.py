"""One turn: where vehicles meet, and the fewest vehicles of a plan that is one turn through all trips."""

from onelongturn.asked import asked_pauses, check_place, check_table
from onelongturn.curves import stands
from onelongturn.errors import BadAsk
from onelongturn.lean import queue_events
from onelongturn.plans import Plan
from onelongturn.rules import FirstIn, plan_by
from onelongturn.swaps import merged


class Turning:
    """The base of the answers whether there is a plan of one turn; true if there is one."""

    def __bool__(self):
        return False


class OneTurn(Turning):
    """The fewest vehicles of a plan of one turn, the fewest taken places, and such a plan."""

    def __init__(self, number, taken, plan):
        self.number = number
        self.taken = taken
        self.plan = plan

    def __bool__(self):
        return True

    def __eq__(self, other):
        if not isinstance(other, OneTurn):
            return False
        return self.number == other.number and self.taken == other.taken and self.plan == other.plan


class Apart(Turning):
    """There is no plan of one turn: the parts that have no place in common."""

    def __init__(self, parts):
        self.parts = parts

    def __bool__(self):
        return False

    def __eq__(self, other):
        return isinstance(other, Apart) and self.parts == other.parts


def stretches(table, pauses, place):
    """The tuple of the stretches of a place, each the tuple of its event clocks, from the begin of the place on."""
    check_table(table)
    told = asked_pauses(pauses)
    check_place(table, place)
    rows = stretch_rows(table, told, place)
    return tuple([tuple([clock for clock, ready, leaving in events]) for events in rows])


def lots(table, pauses, taken=()):
    """The tuple of the lots, each the ascending tuple of its names, with some places taken."""
    check_table(table)
    told = asked_pauses(pauses)
    if not isinstance(taken, (list, tuple)):
        raise BadAsk("taken")
    for place in taken:
        check_place(table, place)
    groups = [group for place in table.places for group in linked_names(table, told, place, place in taken)]
    return parts_of(table.names, groups)


def one_turn(table, pauses=None):
    """The fewest vehicles of a plan of one turn as a OneTurn, or the parts as an Apart if there is no such plan."""
    check_table(table)
    if len(table) == 0:
        raise BadAsk("table")
    told = asked_pauses(pauses)
    apart = lots(table, told, table.places)
    if len(apart) > 1:
        return Apart(apart)
    taken = least_taken(table, lots(table, told))
    plan = merged(plan_by(table, told, FirstIn())).plan
    for place in taken:
        plan = joined_at(plan, place)
    return OneTurn(plan.vehicles, taken, plan)


def stretch_rows(table, pauses, place):
    """The stretches of a place from its begin on, each the list of its events (clock, ready names, leaving names)."""
    curve = stands(table, pauses, place)
    found = []
    hangs = False
    for event in queue_events(table, pauses, place):
        if hangs:
            found[-1].append(event)
        else:
            found.append([event])
        hangs = curve[event[0]] > 0
    return found


def linked_names(table, pauses, place, is_taken):
    """The lists of the names that each stretch of a place puts into one lot."""
    if is_taken:
        return [[trip.name for trip in table if place in (trip.start, trip.goal)]]
    rows = stretch_rows(table, pauses, place)
    return [[name for clock, ready, leaving in events for name in ready + leaving] for events in rows]


def parts_of(names, groups):
    """The finest parts of ascending names such that those of each group are in one part; tuples, ascending."""
    heads = {name: name for name in names}
    for group in groups:
        linked = [heads[name] for name in group]
        for name in names:
            if heads[name] in linked:
                heads[name] = linked[0]
    parts = {}
    for name in list(names):
        parts.setdefault(heads[name], []).append(name)
    return tuple([tuple(part) for part in parts.values()])


def least_taken(table, parts):
    """The fewest places by which all parts are one if they are taken, of several such tuples the least one."""
    firsts = [part[0] for part in parts]
    touching = {}
    for part in list(parts):
        for place in sorted(set([table[name].goal for name in part])):
            touching.setdefault(place, []).append(part[0])
    many = 0
    while True:
        for taken in chosen_tuples(table.places, many):
            if len(parts_of(firsts, [touching[place] for place in taken])) == 1:
                return taken
        many = many + 1


def chosen_tuples(places, many):
    """All tuples of so many of these places in their order, the tuples ascending."""
    if many == 0:
        return [()]
    chosen = []
    for at, place in enumerate(places):
        chosen = chosen + [(place,) + rest for rest in chosen_tuples(places[at + 1:], many - 1)]
    return chosen


def joined_at(plan, place):
    """The plan with one vehicle more in which all turns that come to a place are one.

    Without spare vehicles there, turns that share no stretch follow each other in the day: each takes over the next
    trip of the turn behind it, and only the last one waits over the begin of the place.
    """
    turn_at = {name: at for at, turn in enumerate(plan.turns) for name in turn}
    firsts = {}
    for clock, ready, leaving in queue_events(plan.table, plan.pauses, place):
        for name in ready:
            firsts.setdefault(turn_at[name], name)
    ring = list(firsts.values())
    follows = plan.follows
    for at, name in enumerate(ring):
        follows[name] = plan[ring[(at + 1) % len(ring)]]
    return Plan(plan.table, plan.pauses, follows)
