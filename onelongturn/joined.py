"""Two tables together: how many vehicles they save."""

from onelongturn.asked import asked_pauses, check_tables
from onelongturn.curves import stands
from onelongturn.stairs import stair


class Saved:
    """How many vehicles two tables save together, and how many of them at each place."""

    def __init__(self, number, places):
        self.number = number
        self.places = places

    def __eq__(self, other):
        return isinstance(other, Saved) and self.number == other.number and self.places == other.places


def saved(one, other, pauses=None):
    """How many vehicles two tables need less together than one by one."""
    check_tables(one, other)
    told = asked_pauses(pauses)
    both = one + other
    places = {place: 0 for place in both.places}
    for place in shared_places(one, other):
        places[place] = (stands(one, told, place) + stands(other, told, place)).least
    return Saved(sum([places[place] for place in both.places]), places)


def saved_ever(one, other):
    """The least and the greatest number of vehicles that two tables save together, over all pauses."""
    check_tables(one, other)
    both = one + other
    least = 0
    greatest = 0
    for place in shared_places(one, other):
        numbers = saved_numbers(stair(one, place), stair(other, place), stair(both, place))
        least = least + min([int(number) for number in numbers])
        greatest = greatest + max([int(number) for number in numbers])
    return (least, greatest)


def shared_places(one, other):
    """The places that both tables have."""
    return [place for place in one.places if place in other.places]


def saved_numbers(first, second, together):
    """What is saved at a place at the pauses at which it can change; it is the same a day later."""
    rises = first.rises + second.rises + together.rises
    return [first(m) + second(m) - together(m) for m in (0,) + rises]
