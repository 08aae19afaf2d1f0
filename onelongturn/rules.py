"""Rules of choice: which of those that stand goes first, and the plans that they make."""

from onelongturn.asked import asked_pauses, check_table
from onelongturn.errors import BadAsk, BadName, Twice
from onelongturn.kinds import is_name
from onelongturn.lean import picked_plan


class Rule:
    """The base of the rules of choice; each of them is called with the names that stand."""


class FirstIn(Rule):
    """The one goes that became ready first."""

    WORD = "first"

    def __call__(self, names):
        return 0

    def __eq__(self, other):
        if not isinstance(other, FirstIn):
            return False
        return True


class LastIn(Rule):
    """The one goes that became ready last."""

    WORD = "last"

    def __call__(self, names):
        return len(names) - 1

    def __eq__(self, other):
        if not isinstance(other, LastIn):
            return False
        return True


class Named(Rule):
    """The one goes whose name is told first, without such a one the one that became ready first."""

    WORD = "named"

    def __init__(self, *names):
        for name in names:
            if not is_name(name):
                raise BadName(name)
        for at, name in enumerate(names):
            if name in names[:at]:
                raise Twice(name)
        self.names = names

    def __call__(self, names):
        for name in self.names:
            if name in names:
                return names.index(name)
        return 0

    def __eq__(self, other):
        return isinstance(other, Named) and self.names == other.names


def plan_by(table, pauses, rule):
    """The plan without spare vehicles in which each trip that leaves takes the one that the rule tells."""
    check_table(table)
    told = asked_pauses(pauses)
    if not isinstance(rule, Rule):
        raise BadAsk("rule")
    return picked_plan(table, told, lambda waiting, leaving: rule(waiting))
