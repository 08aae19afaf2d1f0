"""One turn: where vehicles meet, and the fewest vehicles of a plan that is one turn through all trips."""

from onelongturn.asked import asked_pauses, check_place, check_table
from onelongturn.errors import BadAsk
from onelongturn.lean import picked_follows, queue_events, queues_of
from onelongturn.meeting import goals_of, least_taken, names_at, parts_by_places, parts_of, stretch_names, stretch_rows
from onelongturn.plans import Plan, turns_of
from onelongturn.swaps import free_swaps


class Turning:
    """The base of the answers whether there is a plan of one turn; true if there is one."""

    def __bool__(self):
        return False


class OneTurn(Turning):
    """The fewest vehicles of a plan of one turn, the fewest taken places, and such a plan."""

    def __init__(self, number, taken, plan):
        self.number = number
        self.taken = taken
        self.plan = plan

    def __bool__(self):
        return True

    def __eq__(self, other):
        if not isinstance(other, OneTurn):
            return False
        return self.number == other.number and self.taken == other.taken and self.plan == other.plan


class Apart(Turning):
    """There is no plan of one turn: the parts that have no place in common."""

    def __init__(self, parts):
        self.parts = parts

    def __bool__(self):
        return False

    def __eq__(self, other):
        return isinstance(other, Apart) and self.parts == other.parts


def stretches(table, pauses, place):
    """The tuple of the stretches of a place, each the tuple of its event clocks, from the begin of the place on."""
    check_table(table)
    told = asked_pauses(pauses)
    check_place(table, place)
    rows = stretch_rows(queue_events(table, told, place))
    return tuple([tuple([event[0] for event in events]) for events in rows])


def lots(table, pauses, taken=()):
    """The tuple of the lots, each the ascending tuple of its names, with some places taken."""
    check_table(table)
    told = asked_pauses(pauses)
    if not isinstance(taken, (list, tuple)):
        raise BadAsk("taken")
    for place in taken:
        check_place(table, place)
    groups = []
    for place in table.places:
        if place in taken:
            groups.append(names_at(table, place))
        else:
            groups = groups + stretch_names(queue_events(table, told, place))
    return parts_of(table.names, groups)


def one_turn(table, pauses=None):
    """The fewest vehicles of a plan of one turn as a OneTurn, or the parts as an Apart if there is no such plan."""
    check_table(table)
    if len(table) == 0:
        raise BadAsk("table")
    told = asked_pauses(pauses)
    apart = parts_by_places(table)
    if len(apart) > 1:
        return Apart(apart)
    queues = queues_of(table, told)
    taken = least_taken(goals_of(table), parts_of(table.names, linked_names(queues)))
    _, follows = free_swaps(table, told, picked_follows(queues, lambda waiting, leaving: 0))
    for place, queue in zip(table.places, queues):
        if place in taken:
            follows = joined_follows(table, queue, follows)
    plan = Plan(table, told, follows)
    return OneTurn(plan.vehicles, taken, plan)


def linked_names(queues):
    """The lists of the names that each stretch puts into one lot, by the events of the places."""
    return [group for queue in queues for group in stretch_names(queue)]


def taken_places(table, pauses):
    """The fewest taken places with which a table with a trip has one lot, None if there are several with all taken."""
    if len(parts_by_places(table)) > 1:
        return None
    return least_taken(goals_of(table), parts_of(table.names, linked_names(queues_of(table, pauses))))


def joined_follows(table, queue, follows):
    """The next trips with one vehicle more by which all turns that come to a place are one; queue has its events.

    Without spare vehicles there, turns that share no stretch follow each other in the day: each takes over the next
    trip of the turn behind it, and only the last one waits over the begin of the place.
    """
    turn_at = {name: at for at, turn in enumerate(turns_of(table.names, follows)) for name in turn}
    firsts = {}
    for name in [one for event in queue for one in event[1]]:
        if turn_at[name] not in firsts:
            firsts[turn_at[name]] = name
    ring = list(firsts.values())
    joined = dict(follows)
    for at, name in enumerate(ring):
        joined[name] = follows[ring[(at + 1) % len(ring)]]
    return joined
