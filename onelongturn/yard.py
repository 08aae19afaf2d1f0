"""Yards: days that are lived, vehicle by vehicle, by a rule that tells who goes."""

from onelongturn.asked import asked_pauses, check_place, check_stocks, check_table, ready_moment
from onelongturn.errors import BadAsk, BadNumber, Lacking, NoTrip, TooMany
from onelongturn.fewest import under
from onelongturn.kinds import is_int, is_number
from onelongturn.rules import Rule
from onelongturn.trials import Trial
from onelongturn.trips import Paused

MOST_VEHICLES = 200
MOST_DAYS = 400
OF_STOCK = "-"


class Night:
    """How a yard is just ahead of clock 0 of a day. It never changes.

    number: that of the day; did: for each vehicle the tuple of what it did; queues: for each place the tuple of the
    pairs (name of the trip that brought it, vehicle) that are ready there; coming: the tuple of (ready moment, name,
    vehicle) of all others; doers: for each trip the vehicle that did it on the day before.
    """

    def __init__(self, number, did, queues, coming, doers):
        self.number = number
        self.did = did
        self.queues = queues
        self.coming = coming
        self.doers = doers


class Yard:
    """Days that are lived; they can be taken back."""

    def __init__(self, table, pauses, rule, stocks):
        check_table(table)
        told = asked_pauses(pauses)
        if not isinstance(rule, Rule):
            raise BadAsk("rule")
        check_stocks(table, stocks)
        if under(table) + sum([stocks[place] for place in table.places]) > MOST_VEHICLES:
            raise TooMany("vehicles", MOST_VEHICLES)
        self.table = table
        self.pauses = told
        self.rule = rule
        self.now = first_night(table, told, stocks)
        self.past = []

    def day_on(self, late=None):
        """Lives a day, on which the runs that late names come in late by its numbers."""
        check_late(self.table, late)
        if self.now.number == MOST_DAYS:
            raise TooMany("days", MOST_DAYS)
        behind = next_night(self.table, self.pauses, self.rule, self.now, {} if late is None else late)
        self.past.append(self.now)
        self.now = behind

    @property
    def lived(self):
        """How many days are lived."""
        return self.now.number

    def __len__(self):
        return len(self.now.did)

    def __iter__(self):
        return iter(self.now.did)

    def __getitem__(self, at):
        if not is_int(at) or not 0 <= at < len(self.now.did):
            raise BadNumber(at)
        return self.now.did[at]

    def waiting(self, place):
        """The tuple of the vehicles that are ready at a place now, in the order in which they became ready."""
        check_place(self.table, place)
        return tuple([vehicle for name, vehicle in self.now.queues[place]])

    def done(self, name):
        """The tuple of the vehicles that did a trip, day by day."""
        if name not in self.table:
            raise NoTrip(name)
        nights = self.past[1:] + [self.now]
        return tuple([night.doers[name] for night in nights if night.number > 0])

    def undo(self):
        """Takes back the last day; whether there was one."""
        if not self.past:
            return False
        self.now = self.past.pop()
        return True

    def trial(self):
        """For a block behind which the yard is as it was when it began."""
        return Trial(self)

    def tried(self, work):
        """What a function returns of the yard, which is as it was behind it."""
        with self.trial() as same:
            return work(same)


def check_late(table, late):
    """Raises BadAsk("late"), NoTrip(key), BadNumber(value) for any value but None and dicts from runs to numbers."""
    if late is None:
        return
    if not isinstance(late, dict):
        raise BadAsk("late")
    for key in late:
        if key not in table or not isinstance(table[key], Paused):
            raise NoTrip(key)
    wrong = sorted(set([key for key in late if not is_number(late[key])]))
    if wrong:
        raise BadNumber(late[wrong[0]])


def first_night(table, pauses, stocks):
    """The yard ahead of day 0: the stocks are ready, and those that are under way come in time."""
    did = []
    queues = {}
    coming = []
    for place in table.places:
        queues[place] = tuple([(OF_STOCK, len(did) + at) for at in range(stocks[place])])
        did = did + [() for _ in range(stocks[place])]
    length = table.day.length
    for trip in list(table):
        days = (trip.leaves + trip.takes) // length
        for ago in range(days):
            earlier = (days - ago) * length
            deed = (trip.name, trip.leaves - earlier, ready_moment(trip, pauses) - earlier)
            coming.append((deed[2], trip.name, len(did)))
            did.append((deed,))
    return Night(0, tuple(did), queues, tuple(coming), {})


def next_night(table, pauses, rule, night, late):
    """The yard a day later; raises Lacking(name) with the first trip for which nobody is ready."""
    length = table.day.length
    begin = night.number * length
    queues = {place: list(night.queues[place]) for place in table.places}
    coming = list(night.coming)
    deeds = []
    for trip in table.between(0, length):
        coming = taken_in(table, queues, coming, begin + trip.leaves)
        waiting = queues[trip.start]
        if not waiting:
            raise Lacking(trip.name)
        name, vehicle = waiting.pop(rule(tuple([row[0] for row in waiting])))
        ready = begin + ready_moment(trip, pauses) + late.get(trip.name, 0)
        deeds.append((vehicle, (trip.name, begin + trip.leaves, ready)))
        coming.append((ready, trip.name, vehicle))
    coming = taken_in(table, queues, coming, begin + length - 1)
    doers = {deed[0]: vehicle for vehicle, deed in deeds}
    left = {place: tuple(queues[place]) for place in table.places}
    return Night(night.number + 1, with_deeds(night.did, deeds), left, tuple(coming), doers)


def taken_in(table, queues, coming, moment):
    """Puts those that are ready up to a moment behind those at the goals of their trips; the list of the others."""
    for ready, name, vehicle in sorted(set([row for row in coming if row[0] <= moment])):
        queues[table[name].goal].append((name, vehicle))
    return [row for row in coming if row[0] > moment]


def with_deeds(did, deeds):
    """The tuple of what each vehicle did, with the deeds of a day more: pairs (vehicle, what it did), in order."""
    more = {}
    for vehicle, deed in list(deeds):
        more.setdefault(vehicle, []).append(deed)
    return tuple([done + tuple(more.get(vehicle, [])) for vehicle, done in enumerate(did)])
