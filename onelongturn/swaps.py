"""Swaps: plans whose turns are joined at no cost, and the fewest swaps from one plan to another one."""

from onelongturn.errors import BadAsk, Unlike
from onelongturn.lean import check_lean
from onelongturn.plans import Plan


class Merged:
    """The fewest swaps that join what can be joined, and the plan behind them."""

    def __init__(self, swaps, plan):
        self.swaps = swaps
        self.plan = plan

    def __eq__(self, other):
        return isinstance(other, Merged) and self.swaps == other.swaps and self.plan == other.plan


def merged(plan):
    """The fewest swaps, each of two trips that meet, to a plan with as many turns as lots."""
    check_lean(plan)
    swaps = []
    pair = free_pair(plan)
    while pair is not None:
        swaps.append(pair)
        plan = plan.swapped(pair[0], pair[1])
        pair = free_pair(plan)
    return Merged(tuple(swaps), plan)


def fewest_swaps(one, other):
    """The least number of swaps that lead from one plan to another one."""
    return len(swaps_to(one, other))


def swaps_to(one, other):
    """The tuple of the fewest swaps by which one plan becomes another one."""
    check_plans(one, other)
    names = one.table.names
    now = one.follows
    swaps = []
    for name in names:
        wanted = other[name]
        if now[name] != wanted:
            # The trips that must exchange make up rings; no swap cuts more than one ring in two, and this one does.
            giving = [taking for taking in names if now[taking] == wanted][0]
            swaps.append((name, giving))
            now[name], now[giving] = wanted, now[name]
    return tuple(swaps)


def free_pair(plan):
    """The first two trips that meet and are in unlike turns, None if there are none."""
    table = plan.table
    turn_at = {name: at for at, turn in enumerate(plan.turns) for name in turn}
    for at, one in enumerate(table.names):
        for other in table.names[at + 1:]:
            if turn_at[one] != turn_at[other] and table[one].goal == table[other].goal and plan.meet(one, other):
                return (one, other)
    return None


def check_plans(one, other):
    """Raises BadAsk("one"), BadAsk("other"), Unlike("table"), Unlike("pauses") unless two plans are of the same."""
    if not isinstance(one, Plan):
        raise BadAsk("one")
    if not isinstance(other, Plan):
        raise BadAsk("other")
    if not one.table == other.table:
        raise Unlike("table")
    if not one.pauses == other.pauses:
        raise Unlike("pauses")
