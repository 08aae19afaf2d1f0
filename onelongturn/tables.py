"""Tables of trips, and the pauses at the places."""

from onelongturn.days import Day
from onelongturn.errors import BadAsk, BadName, BadNumber, BadPauses, BadTable, BadText
from onelongturn.errors import NoTrip, OutOfDay, TooMany, Twice, Unbalanced, Unlike
from onelongturn.kinds import is_int, is_name, is_number, is_number_from_one
from onelongturn.trips import Trip, retold
from onelongturn.words import told_pauses, wrong_pause_word

MOST_TRIPS = 40
MOST_PLACES = 8


class Table:
    """Trips that are run each day, at each place as many that end as start."""

    def __init__(self, day, *trips):
        if not isinstance(day, Day):
            raise BadAsk("day")
        check_trips(trips)
        check_amount(day, trips)
        by_name = {trip.name: trip for trip in trips}
        self.day = day
        self.names = tuple(sorted(set(list(by_name))))
        self.places = places_of(trips)
        self.trips = tuple([by_name[name] for name in self.names])
        self._by_name = by_name
        check_balance(self.places, trips)

    @staticmethod
    def of(day, trips):
        """The table of a list or tuple of trips."""
        if not isinstance(day, Day):
            raise BadAsk("day")
        if not isinstance(trips, (list, tuple)):
            raise BadAsk("trips")
        return Table(day, *trips)

    def __getitem__(self, at):
        if at not in self:
            raise NoTrip(at)
        return self._by_name[at]

    def __contains__(self, x):
        return isinstance(x, str) and x in self._by_name

    def __len__(self):
        return len(self.trips)

    def __iter__(self):
        return iter(self.trips)

    def __eq__(self, other):
        return isinstance(other, Table) and self.day == other.day and self.trips == other.trips

    def __add__(self, other):
        if not isinstance(other, Table):
            raise BadAsk("table")
        if not self.day == other.day:
            raise Unlike("day")
        return Table.of(self.day, self.trips + other.trips)

    def between(self, a, b):
        """The tuple of the trips that leave at clocks from a to b - 1, in their order."""
        found = {(trip.leaves, trip.name): trip for trip in self.trips if a <= trip.leaves < b}
        return tuple([found[key] for key in sorted(set(list(found)))])

    def with_trips(self, *trips):
        """The table with these trips more."""
        check_trips(trips)
        return Table.of(self.day, self.trips + trips)

    def without(self, *names):
        """The table without the trips of these names."""
        self.check_names(names)
        return Table.of(self.day, [trip for trip in self.trips if trip.name not in names])

    def moved(self, k, *names):
        """The table in which the trips of these names, without names all, leave k minutes later."""
        if not is_int(k):
            raise BadNumber(k)
        self.check_names(names)
        length = self.day.length
        chosen = names if names else self.names
        trips = []
        for trip in self.trips:
            leaves = (trip.leaves + k) % length if trip.name in chosen else trip.leaves
            trips.append(retold(trip, trip.name, leaves, trip.takes))
        return Table.of(self.day, trips)

    def scaled(self, k):
        """The table in which the day, all leaves and all takes are k times as long."""
        if not is_int(k) or not is_number_from_one(self.day.length * k):
            raise BadNumber(k)
        if not all([is_number(trip.takes * k) for trip in self.trips]):
            raise BadNumber(k)
        trips = [retold(trip, trip.name, trip.leaves * k, trip.takes * k) for trip in self.trips]
        return Table.of(self.day * k, trips)

    def check_names(self, names):
        """Raises NoTrip(value) with the first of any values that is no name of a trip of the table."""
        for name in names:
            if name not in self:
                raise NoTrip(name)


class Pauses:
    """A number for each place: how long the vehicles pause behind the runs that come in there."""

    def __init__(self, **places):
        self._numbers = told_numbers(places)
        self.places = tuple(sorted(set(list(self._numbers))))

    @staticmethod
    def of(places):
        """The pauses of a dict from places to numbers."""
        if not isinstance(places, dict):
            raise BadAsk("places")
        numbers = told_numbers(places)
        pauses = Pauses()
        pauses._numbers = numbers
        pauses.places = tuple(sorted(set(list(numbers))))
        return pauses

    @staticmethod
    def read(text):
        """The pauses with just this text."""
        if not isinstance(text, str):
            raise BadText(0, 0)
        words = text.split(" ")
        if words[0] == "-":
            if len(words) > 1:
                raise BadText(0, 1)
            return Pauses()
        wrong = wrong_pause_word(words, 0)
        if wrong is not None:
            raise BadText(0, wrong)
        return Pauses.of(told_pauses(words, 0))

    def __getitem__(self, at):
        if not is_name(at):
            raise BadName(at)
        return self._numbers.get(at, 0)

    def put(self, place, number):
        """The pauses with another number at this place."""
        if not is_name(place):
            raise BadName(place)
        numbers = dict(self._numbers)
        numbers[place] = number
        return Pauses.of(numbers)

    def __iter__(self):
        return iter(self.places)

    def __len__(self):
        return len(self.places)

    def __eq__(self, other):
        return isinstance(other, Pauses) and self._numbers == other._numbers

    def __add__(self, other):
        return Pauses.of({place: one + two for place, one, two in paired(self, other)})

    def __or__(self, other):
        return Pauses.of({place: two if one < two else one for place, one, two in paired(self, other)})

    def __and__(self, other):
        return Pauses.of({place: one if one < two else two for place, one, two in paired(self, other)})

    def __le__(self, other):
        return all([row[1] <= row[2] for row in paired(self, other)])

    def __lt__(self, other):
        return self <= other and not self == other

    def __ge__(self, other):
        return all([row[1] >= row[2] for row in paired(self, other)])

    def __gt__(self, other):
        return self >= other and not self == other

    def __str__(self):
        if not self.places:
            return "-"
        return " ".join([f"{place} {self._numbers[place]}" for place in self.places])


def check_trips(trips):
    """Raises BadTable(at) with the index of the first of any values that is no trip."""
    for at, trip in enumerate(trips):
        if not isinstance(trip, Trip):
            raise BadTable(at)


def check_amount(day, trips):
    """Raises the errors of trips with a name in common, too many or out of the day, or of too many places."""
    twice = names_twice(trips)
    if twice:
        raise Twice(twice[0])
    if len(trips) > MOST_TRIPS:
        raise TooMany("trips", MOST_TRIPS)
    late = sorted(set([trip.name for trip in trips if trip.leaves not in day]))
    if late:
        raise OutOfDay(late[0])
    if len(places_of(trips)) > MOST_PLACES:
        raise TooMany("places", MOST_PLACES)


def check_balance(places, trips):
    """Raises Unbalanced(place) with the first of the places at which not as many trips end as start."""
    place = first_unbalanced(places, trips)
    if place is not None:
        raise Unbalanced(place)


def first_unbalanced(places, trips):
    """The first of the places at which not as many trips end as start, None if there is none."""
    for place in places:
        starts = [trip.name for trip in trips if trip.start == place]
        ends = [trip.name for trip in trips if trip.goal == place]
        if len(starts) != len(ends):
            return place
    return None


def names_twice(trips):
    """The ascending list of the names that more than one trip has."""
    seen = {}
    twice = {}
    for trip in trips:
        if trip.name in seen:
            twice[trip.name] = True
        seen[trip.name] = True
    return sorted(set(list(twice)))


def places_of(trips):
    """The ascending tuple of the places at which trips start or end."""
    return tuple(sorted(set([trip.start for trip in trips] + [trip.goal for trip in trips])))


def told_numbers(places):
    """The numbers above 0 of a dict from places; raises BadName(key), BadPauses(place)."""
    for place in places:
        if not is_name(place):
            raise BadName(place)
    wrong = sorted(set([place for place in places if not is_number(places[place])]))
    if wrong:
        raise BadPauses(wrong[0])
    return {place: number for place, number in places.items() if number > 0}


def paired(one, other):
    """The triples of a place and the numbers of both, for each place at which one of them has a pause.

    Raises BadAsk("pauses") for any value of other that is no Pauses.
    """
    if not isinstance(other, Pauses):
        raise BadAsk("pauses")
    return [(place, one[place], other[place]) for place in sorted(set(one.places + other.places))]
