"""The fewest vehicles of a table: how many each place needs, and cuts that show that no fewer do."""

from onelongturn.asked import asked_pauses, check_table, ready_moment, tells_places
from onelongturn.curves import pausing, stands
from onelongturn.errors import BadAsk
from onelongturn.lean import begin_of


class Fewest:
    """The fewest vehicles of a table, and for each place the clock by which the days of the trips are as many."""

    def __init__(self, number, cuts):
        self.number = number
        self.cuts = cuts

    def __eq__(self, other):
        return isinstance(other, Fewest) and self.number == other.number and self.cuts == other.cuts


def fewest(table, pauses=None):
    """The fewest vehicles, with the least cuts ahead of which nobody stands."""
    check_table(table)
    told = asked_pauses(pauses)
    cuts = {place: begin_of(table, told, place) for place in table.places}
    return Fewest(days_between(table, told, cuts), cuts)


def fewest_number(table, pauses):
    """The fewest vehicles, without the cuts."""
    return fewest(table, pauses).number


def stock(table, pauses, place):
    """How many vehicles must be at a place, standing or pausing, just ahead of clock 0."""
    return stands(table, pauses, place)[-1] + pausing(table, pauses, place)[-1]


def under(table):
    """How many trips are under way just ahead of clock 0."""
    check_table(table)
    return sum([(trip.leaves + trip.takes) // table.day.length for trip in table])


def room(table, pauses, place):
    """The greatest number that stands at a place in a plan without spare vehicles."""
    return stands(table, pauses, place).greatest


def days_by(table, pauses, cuts):
    """The days of all trips together by any cuts."""
    check_table(table)
    told = asked_pauses(pauses)
    if not tells_places(table, cuts) or not all([cuts[place] in table.day for place in table.places]):
        raise BadAsk("cuts")
    return days_between(table, told, cuts)


def days_between(table, pauses, cuts):
    """The days of all trips together by right cuts."""
    length = table.day.length
    ends = sum([(ready_moment(trip, pauses) - cuts[trip.goal]) // length for trip in table])
    return ends - sum([(trip.leaves - cuts[trip.start]) // length for trip in table])
