"""What many functions ask of their arguments `table`, `pauses`, `place` and of dicts from places."""

from onelongturn.errors import BadAsk, NoPlace
from onelongturn.kinds import is_number
from onelongturn.tables import Pauses, Table


def check_table(table):
    """Raises BadAsk("table") for any value that is no Table."""
    if not isinstance(table, Table):
        raise BadAsk("table")


def asked_pauses(pauses):
    """The Pauses, also for None; raises BadAsk("pauses") for any other value."""
    if pauses is None:
        return Pauses()
    if not isinstance(pauses, Pauses):
        raise BadAsk("pauses")
    return pauses


def check_place(table, place):
    """Raises NoPlace(place) for any value that is no place of the table."""
    if place not in table.places:
        raise NoPlace(place)


def ready_moment(trip, pauses):
    """When the vehicle of a trip is ready, if it leaves on day 0."""
    return trip.ready(pauses[trip.goal])


def tells_places(table, value):
    """Whether any value is a dict from all places of the table, and nothing else."""
    if not isinstance(value, dict) or len(value) != len(table.places):
        return False
    return all([place in value for place in table.places])


def check_stocks(table, stocks):
    """Raises BadAsk("stocks") for any value that is no dict from all places of the table to numbers."""
    if not tells_places(table, stocks) or not all([is_number(stocks[place]) for place in table.places]):
        raise BadAsk("stocks")


def check_tables(one, other):
    """Raises BadAsk("one"), BadAsk("other") for any values that are no Table."""
    if not isinstance(one, Table):
        raise BadAsk("one")
    if not isinstance(other, Table):
        raise BadAsk("other")
