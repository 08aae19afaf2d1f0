"""Writing texts of tables, pauses and plans, as reader.py reads them."""

from onelongturn.asked import asked_pauses, check_table
from onelongturn.errors import BadAsk
from onelongturn.plans import Plan


def write_table(table):
    """The text of a table."""
    check_table(table)
    return "\n".join([f"day {table.day}"] + [str(trip) for trip in table])


def write_pauses(pauses):
    """The text of pauses."""
    told = asked_pauses(pauses)
    return " ".join(["pauses"] + [f"{place} {told[place]}" for place in told])


def write_plan(plan):
    """The text of a plan."""
    if not isinstance(plan, Plan):
        raise BadAsk("plan")
    follows = [f"{name} {plan[name]}" for name in plan.table.names]
    return "\n".join([write_table(plan.table), write_pauses(plan.pauses)] + follows)
