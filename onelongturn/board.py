"""Boards: a table and pauses that change, and whose trips need not be in balance all the time."""

from onelongturn.asked import asked_pauses, check_table
from onelongturn.days import Day
from onelongturn.errors import BadAsk, BadNumber, BadTrip, NoTrip, OutOfDay, TooMany
from onelongturn.fewest import fewest_number
from onelongturn.kinds import is_int
from onelongturn.tables import MOST_PLACES, MOST_TRIPS, Table, first_unbalanced, places_of
from onelongturn.trials import Trial
from onelongturn.trips import Trip, retold
from onelongturn.turns import taken_places


class Sheet:
    """What a board shows at a time: a day, trips by their names, and pauses. It never changes."""

    def __init__(self, day, trips, pauses):
        self.day = day
        self.trips = trips
        self.names = tuple(sorted(set(list(trips))))
        self.pauses = pauses


class Board:
    """A table and pauses that change; changes can be taken back."""

    def __init__(self, table, pauses=None):
        check_table(table)
        told = asked_pauses(pauses)
        self.now = Sheet(table.day, {trip.name: trip for trip in table}, told)
        self.past = []

    def __getitem__(self, at):
        if at not in self:
            raise NoTrip(at)
        return self.now.trips[at]

    def __setitem__(self, at, worth):
        if not isinstance(worth, Trip):
            raise BadAsk("trip")
        if not isinstance(at, str) or at != worth.name:
            raise BadTrip("name")
        self.put(worth)

    def __contains__(self, x):
        return isinstance(x, str) and x in self.now.trips

    def __len__(self):
        return len(self.now.names)

    def __iter__(self):
        return iter(self.now.names)

    def __iadd__(self, other):
        move_all(self, other, 1)
        return self

    def __isub__(self, other):
        move_all(self, other, -1)
        return self

    def put(self, trip):
        """Puts a trip in, perhaps in the place of the one with its name."""
        if not isinstance(trip, Trip):
            raise BadAsk("trip")
        if trip.leaves not in self.now.day:
            raise OutOfDay(trip.name)
        trips = dict(self.now.trips)
        trips[trip.name] = trip
        check_sizes(trips)
        change(self, Sheet(self.now.day, trips, self.now.pauses))

    def drop(self, name):
        """Takes a trip out."""
        if name not in self:
            raise NoTrip(name)
        trips = {other: trip for other, trip in self.now.trips.items() if other != name}
        change(self, Sheet(self.now.day, trips, self.now.pauses))

    def pause(self, place, number):
        """Sets the pause at a place."""
        change(self, Sheet(self.now.day, self.now.trips, self.now.pauses.put(place, number)))

    @property
    def minutes(self):
        """The length of the day."""
        return self.now.day.length

    @minutes.setter
    def minutes(self, value):
        self.set_minutes(value)

    def set_minutes(self, value):
        """Sets another length of the day."""
        day = Day(value)
        for name in self.now.names:
            if self.now.trips[name].leaves not in day:
                raise OutOfDay(name)
        change(self, Sheet(day, self.now.trips, self.now.pauses))

    @property
    def is_level(self):
        """Whether the trips are in balance."""
        trips = list(self.now.trips.values())
        return first_unbalanced(places_of(trips), trips) is None

    @property
    def deeds(self):
        """How many changes can be taken back."""
        return len(self.past)

    def told_table(self):
        """The Table of the trips."""
        return Table.of(self.now.day, list(self.now.trips.values()))

    def told_pauses(self):
        """The Pauses."""
        return self.now.pauses

    def fewest_now(self):
        """The fewest vehicles, None if the trips are in no balance."""
        return fewest_number(self.told_table(), self.now.pauses) if self.is_level else None

    def one_now(self):
        """The fewest vehicles of one turn, None if there is none, or if the trips are none or in no balance."""
        if not self.is_level or not self.now.names:
            return None
        table = self.told_table()
        taken = taken_places(table, self.now.pauses)
        return None if taken is None else fewest_number(table, self.now.pauses) + len(taken)

    def twin(self):
        """An equal board of its own, without changes to take back."""
        other = Board(Table(self.now.day))
        other.now = self.now
        return other

    def undo(self):
        """Takes back the last change that is not taken back; whether there was one."""
        if not self.past:
            return False
        self.now = self.past.pop()
        return True

    def trial(self):
        """For a block behind which the board is as it was when it began."""
        return Trial(self)

    def tried(self, work):
        """What a function returns of the board, which is as it was behind it."""
        with self.trial() as same:
            return work(same)


def change(board, sheet):
    """Shows another sheet on a board, and keeps the one that it showed."""
    board.past.append(board.now)
    board.now = sheet


def move_all(board, k, sign):
    """Moves all trips k minutes later, or earlier by the sign -1; raises BadNumber(k) for any value but integers."""
    if not is_int(k):
        raise BadNumber(k)
    now = board.now
    length = now.day.length
    clocks = {name: (trip.leaves + sign * k) % length for name, trip in now.trips.items()}
    moved = {name: retold(trip, name, clocks[name], trip.takes) for name, trip in now.trips.items()}
    change(board, Sheet(now.day, moved, now.pauses))


def check_sizes(trips):
    """Raises TooMany("trips", 40), TooMany("places", 8) if a dict of trips has more of them."""
    if len(trips) > MOST_TRIPS:
        raise TooMany("trips", MOST_TRIPS)
    if len(places_of(list(trips.values()))) > MOST_PLACES:
        raise TooMany("places", MOST_PLACES)
