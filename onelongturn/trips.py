"""Trips: runs, behind which their vehicles pause, and stays."""

from onelongturn.errors import BadNumber, BadText, BadTrip
from onelongturn.kinds import is_int, is_name, is_number, is_number_from_one
from onelongturn.words import wrong_trip_word


class Trip:
    """The base of runs and stays; each of them restates its methods, as the interface asks for each class."""

    def ready(self, pause):
        """The ready moment, if the trip leaves at the moment `leaves`; no pause plays a part."""
        return self.leaves + self.takes

    def __call__(self, pause):
        return self.ready(pause)

    def __add__(self, other):
        return retold(self, self.name, moved_leaves(self, other, 1), self.takes)

    def __sub__(self, other):
        return retold(self, self.name, moved_leaves(self, other, -1), self.takes)

    def __lt__(self, other):
        if not isinstance(other, Trip):
            return NotImplemented
        return is_earlier(self, other)

    def __le__(self, other):
        if not isinstance(other, Trip):
            return NotImplemented
        return not is_earlier(other, self)

    def __eq__(self, other):
        return isinstance(other, Trip) and words_of(self) == words_of(other)

    def __str__(self):
        return " ".join(words_of(self))

    @staticmethod
    def read(text):
        """The trip with this text."""
        if not isinstance(text, str):
            raise BadText(0, 0)
        words = text.split(" ")
        wrong = wrong_trip_word(words)
        if wrong is not None:
            raise BadText(0, wrong)
        return told_trip(words)


class Paused:
    """A base of the trips behind which a vehicle pauses at the goal."""


class Run(Trip, Paused):
    """A trip that comes in at its goal."""

    def __init__(self, name, start, leaves, takes, goal):
        check_trip(name, (start, goal), leaves, takes)
        self.name = name
        self.start = start
        self.leaves = leaves
        self.takes = takes
        self.goal = goal

    def ready(self, pause):
        """The ready moment, the pause of the goal behind the end of the run."""
        return self.leaves + self.takes + pause

    def __call__(self, pause):
        return self.ready(pause)

    def __add__(self, other):
        return retold(self, self.name, moved_leaves(self, other, 1), self.takes)

    def __sub__(self, other):
        return retold(self, self.name, moved_leaves(self, other, -1), self.takes)

    def __lt__(self, other):
        if not isinstance(other, Trip):
            return NotImplemented
        return is_earlier(self, other)

    def __le__(self, other):
        if not isinstance(other, Trip):
            return NotImplemented
        return not is_earlier(other, self)

    def __eq__(self, other):
        return isinstance(other, Run) and words_of(self) == words_of(other)

    def __str__(self):
        return " ".join(words_of(self))


class Stay(Trip):
    """A trip that starts and ends at one place, without a pause behind it."""

    def __init__(self, name, place, leaves, takes):
        check_trip(name, (place,), leaves, takes)
        self.name = name
        self.start = place
        self.leaves = leaves
        self.takes = takes
        self.goal = place

    def ready(self, pause):
        """The ready moment, the end of the stay."""
        return self.leaves + self.takes

    def __call__(self, pause):
        return self.ready(pause)

    def __add__(self, other):
        return retold(self, self.name, moved_leaves(self, other, 1), self.takes)

    def __sub__(self, other):
        return retold(self, self.name, moved_leaves(self, other, -1), self.takes)

    def __lt__(self, other):
        if not isinstance(other, Trip):
            return NotImplemented
        return is_earlier(self, other)

    def __le__(self, other):
        if not isinstance(other, Trip):
            return NotImplemented
        return not is_earlier(other, self)

    def __eq__(self, other):
        return isinstance(other, Stay) and words_of(self) == words_of(other)

    def __str__(self):
        return " ".join(words_of(self))


def check_trip(name, places, leaves, takes):
    """Raises BadTrip(part) with the first part of a trip that is wrong."""
    if not is_name(name):
        raise BadTrip("name")
    if not all([is_name(place) for place in places]):
        raise BadTrip("place")
    if not is_number(leaves):
        raise BadTrip("leaves")
    if not is_number_from_one(takes):
        raise BadTrip("takes")


def moved_leaves(trip, k, sign):
    """When a trip leaves that is moved by k minutes; raises BadNumber(k) for any value by which it cannot be."""
    if not is_int(k) or not is_number(trip.leaves + sign * k):
        raise BadNumber(k)
    return trip.leaves + sign * k


def is_earlier(one, other):
    """Whether one trip leaves earlier than another one, or as early and has the lesser name."""
    return (one.leaves, one.name) < (other.leaves, other.name)


def retold(trip, name, leaves, takes):
    """The trip between the same places with another name and other times."""
    if isinstance(trip, Run):
        return Run(name, trip.start, leaves, takes, trip.goal)
    return Stay(name, trip.start, leaves, takes)


def words_of(trip):
    """The words of the text of a trip; they tell its class and all its attributes."""
    if isinstance(trip, Run):
        return ["run", trip.name, trip.start, str(trip.leaves), str(trip.takes), trip.goal]
    return ["stay", trip.name, trip.start, str(trip.leaves), str(trip.takes)]


def told_trip(words):
    """The trip that the right words of its line tell."""
    if words[0] == "run":
        return Run(words[1], words[2], int(words[3]), int(words[4]), words[5])
    return Stay(words[1], words[2], int(words[3]), int(words[4]))
