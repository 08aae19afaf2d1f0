"""All plans without spare vehicles: how many there are, and their numbers."""

from onelongturn.asked import asked_pauses, check_table
from onelongturn.errors import BadNumber
from onelongturn.kinds import is_int
from onelongturn.lean import check_lean, picked_plan, picked_rows, queues_of


def plans_count(table, pauses):
    """How many plans without spare vehicles there are."""
    check_table(table)
    return ways_of(queue_sizes(table, asked_pauses(pauses)))


def plan_at(table, pauses, number):
    """The plan without spare vehicles of this number."""
    check_table(table)
    told = asked_pauses(pauses)
    sizes = queue_sizes(table, told)
    if not is_int(number) or not 0 <= number < ways_of(sizes):
        raise BadNumber(number)
    return numbered_plan(table, told, sizes, number)


def number_of(plan):
    """The number of a plan without spare vehicles."""
    check_lean(plan)
    ahead = {following: name for name, following in plan.follows.items()}
    number = 0
    queues = queues_of(plan.table, plan.pauses)
    rows = picked_rows(queues, lambda waiting, leaving: waiting.index(ahead[leaving]))
    for name, taken, choice, size in rows:
        number = number * size + choice
    return number


def all_plans(table, pauses):
    """The plans without spare vehicles, by their numbers."""
    check_table(table)
    told = asked_pauses(pauses)
    sizes = queue_sizes(table, told)
    for number in range(ways_of(sizes)):
        yield numbered_plan(table, told, sizes, number)


def queue_sizes(table, pauses):
    """The pairs of a trip that leaves and how many stand then, in the order of the choices."""
    # Whoever is chosen, as many stand behind a choice: so any choices tell the sizes.
    rows = picked_rows(queues_of(table, pauses), lambda waiting, leaving: 0)
    return [(name, size) for name, taken, choice, size in rows]


def ways_of(sizes):
    """In how many ways all choices can be made."""
    ways = 1
    for _, size in sizes:
        ways = ways * size
    return ways


def numbered_plan(table, pauses, sizes, number):
    """The plan of a right number, whose digits are the choices, the last one worth least."""
    choices = {}
    rest = number
    for name, size in reversed(list(sizes)):
        choices[name] = rest % size
        rest = rest // size
    return picked_plan(table, pauses, lambda waiting, leaving: choices[leaving])
