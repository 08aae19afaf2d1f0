"""Swaps: plans whose turns are joined at no cost, and the fewest swaps from one plan to another one."""

from onelongturn.errors import BadAsk, Unlike
from onelongturn.lean import check_lean
from onelongturn.plans import Plan, ready_moments, turns_of, waits_behind, waits_meet


class Merged:
    """The fewest swaps that join what can be joined, and the plan behind them."""

    def __init__(self, swaps, plan):
        self.swaps = swaps
        self.plan = plan

    def __eq__(self, other):
        return isinstance(other, Merged) and self.swaps == other.swaps and self.plan == other.plan


def merged(plan):
    """The fewest swaps, each of two trips that meet, to a plan with as many turns as lots."""
    check_lean(plan)
    swaps, follows = free_swaps(plan.table, plan.pauses, plan.follows)
    return Merged(tuple(swaps), Plan(plan.table, plan.pauses, follows))


def fewest_swaps(one, other):
    """The least number of swaps that lead from one plan to another one."""
    return len(swaps_to(one, other))


def swaps_to(one, other):
    """The tuple of the fewest swaps by which one plan becomes another one."""
    check_plans(one, other)
    names = one.table.names
    now = one.follows
    swaps = []
    for name in names:
        wanted = other[name]
        if now[name] != wanted:
            # The trips that must exchange make up rings; no swap cuts more than one ring in two, and this one does.
            giving = [taking for taking in names if now[taking] == wanted][0]
            swaps.append((name, giving))
            now[name], now[giving] = wanted, now[name]
    return tuple(swaps)


def free_swaps(table, pauses, follows):
    """The list of the swaps that join all turns that can be joined at no cost, and the next trips behind them."""
    ready = ready_moments(table, pauses)
    now = dict(follows)
    swaps = []
    pair = free_pair(table, ready, now)
    while pair is not None:
        one, other = pair
        swaps.append(pair)
        now[one], now[other] = now[other], now[one]
        pair = free_pair(table, ready, now)
    return (swaps, now)


def free_pair(table, ready, follows):
    """The first two trips that meet and are in unlike turns, None if there are none."""
    turns = turns_of(table.names, follows)
    if len(turns) < 2:
        return None
    turn_at = {name: at for at, turn in enumerate(turns) for name in turn}
    waits = waits_behind(table, ready, follows)
    length = table.day.length
    for at, one in enumerate(table.names):
        goal = table[one].goal
        for other in table.names[at + 1:]:
            if turn_at[one] != turn_at[other] and table[other].goal == goal:
                if waits_meet(length, ready, waits, one, other):
                    return (one, other)
    return None


def check_plans(one, other):
    """Raises BadAsk("one"), BadAsk("other"), Unlike("table"), Unlike("pauses") unless two plans are of the same."""
    if not isinstance(one, Plan):
        raise BadAsk("one")
    if not isinstance(other, Plan):
        raise BadAsk("other")
    if not one.table == other.table:
        raise Unlike("table")
    if not one.pauses == other.pauses:
        raise Unlike("pauses")
