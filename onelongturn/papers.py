"""Papers: what shows that numbers are right, as tuples that a small looker adds up and compares."""

from onelongturn.fewest import fewest
from onelongturn.meeting import chosen_tuples
from onelongturn.rules import FirstIn, plan_by
from onelongturn.stays import most_stays
from onelongturn.turns import OneTurn, lots, one_turn


def fewest_paper(table, pauses):
    """The fewest vehicles with cuts and a plan: ("fewest", number, cuts, follows)."""
    found = fewest(table, pauses)
    follows = plan_by(table, pauses, FirstIn()).follows
    return ("fewest", found.number, told_cuts(table, found), tuple([(name, follows[name]) for name in table.names]))


def turn_paper(table, pauses):
    """The fewest vehicles of one turn: ("one", number, row, cuts, partings), or ("apart", names) if there is none."""
    found = one_turn(table, pauses)
    if not isinstance(found, OneTurn):
        return ("apart", found.parts[0])
    partings = []
    if found.taken:
        for places in chosen_tuples(table.places, len(found.taken) - 1):
            partings.append((places, lots(table, pauses, places)[0]))
    return ("one", found.number, found.plan.turns[0], told_cuts(table, fewest(table, pauses)), tuple(partings))


def stays_paper(table, pauses, place, takes, spare=0):
    """The most stays of a day: ("stays", number, starts, rounds, row)."""
    found = most_stays(table, pauses, place, takes, spare)
    return ("stays", found.number, found.starts, found.rounds, found.row)


def told_cuts(table, found):
    """The pairs of places and clocks that a Fewest tells, by places."""
    return tuple([(place, found.cuts[place]) for place in table.places])
