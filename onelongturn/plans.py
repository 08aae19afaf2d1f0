"""Plans: what the vehicle of each trip does next, and the turns that this makes."""

from onelongturn.asked import asked_pauses, check_place, check_table, ready_moment
from onelongturn.curves import covering
from onelongturn.errors import BadPlan, NoTrip, Unlike


class Plan:
    """For each trip of a table the trip that its vehicle does next."""

    def __init__(self, table, pauses, follows):
        check_table(table)
        told = asked_pauses(pauses)
        check_follows(table, follows)
        self.table = table
        self.pauses = told
        self._follows = {name: follows[name] for name in table.names}
        self._ready = ready_moments(table, told)
        self._waits = waits_behind(table, self._ready, self._follows)
        self._turns = turns_of(table.names, self._follows)
        self._days = days_of(table, self._turns, self._ready, self._waits)

    @property
    def follows(self):
        """The dict from each name to the next one."""
        return dict(self._follows)

    @property
    def vehicles(self):
        """How many vehicles the plan has."""
        return sum([self._days[turn[0]] for turn in self._turns])

    @property
    def turns(self):
        """The tuple of the turns, each a tuple of names from its least one on."""
        return self._turns

    @property
    def is_one(self):
        """Whether there is just one turn."""
        return len(self._turns) == 1

    def __getitem__(self, at):
        if at not in self.table:
            raise NoTrip(at)
        return self._follows[at]

    def __len__(self):
        return len(self._turns)

    def __iter__(self):
        return iter(self._turns)

    def __eq__(self, other):
        if not isinstance(other, Plan):
            return False
        return self.table == other.table and self.pauses == other.pauses and self._follows == other._follows

    def wait(self, name):
        """The wait behind a trip."""
        self.check_name(name)
        return self._waits[name]

    def days(self, name):
        """The days of the turn of a trip."""
        self.check_name(name)
        return self._days[name]

    def curve(self, place):
        """How many vehicles stand at a place in the minute of each clock."""
        check_place(self.table, place)
        ending = [trip.name for trip in self.table if trip.goal == place]
        return covering(self.table.day, [(self._ready[name], self._waits[name]) for name in ending])

    def spare(self, place):
        """How many vehicles are spare at a place."""
        return self.curve(place).least

    def meet(self, one, other):
        """Whether two trips meet: whether some moment is in the waits behind both."""
        self.check_two(one, other)
        return waits_meet(self.table.day.length, self._ready, self._waits, one, other)

    def swapped(self, one, other):
        """The plan in which two trips have exchanged their next trips."""
        self.check_two(one, other)
        follows = self.follows
        follows[one], follows[other] = follows[other], follows[one]
        return Plan(self.table, self.pauses, follows)

    def walk(self, name):
        """Endlessly what a vehicle does that leaves with this trip on day 0: (name, leaving, ready moment)."""
        self.check_name(name)
        moment = self.table[name].leaves
        while True:
            ready = moment + self._ready[name] - self.table[name].leaves
            yield (name, moment, ready)
            moment = ready + self._waits[name]
            name = self._follows[name]

    def check_name(self, name):
        """Raises NoTrip(name) for any value that is no name of a trip of the table."""
        if name not in self.table:
            raise NoTrip(name)

    def check_two(self, one, other):
        """Raises NoTrip(value), Unlike("trip"), Unlike("place") unless two trips end at one place."""
        self.check_name(one)
        self.check_name(other)
        if one == other:
            raise Unlike("trip")
        if self.table[one].goal != self.table[other].goal:
            raise Unlike("place")


def check_follows(table, follows):
    """Raises BadPlan(None), BadPlan(name) for any value that tells no plan of the table."""
    if not isinstance(follows, dict) or len(follows) != len(table):
        raise BadPlan(None)
    if not all([name in follows and follows[name] in table for name in table.names]):
        raise BadPlan(None)
    if len(set([follows[name] for name in table.names])) != len(table):
        raise BadPlan(None)
    for name in table.names:
        if table[follows[name]].start != table[name].goal:
            raise BadPlan(name)


def ready_moments(table, pauses):
    """The dict from each name to the moment at which the trip is ready, if it leaves on day 0."""
    return {trip.name: ready_moment(trip, pauses) for trip in table}


def waits_behind(table, ready, follows):
    """The dict from each name to the least number of minutes from its ready moment until the next trip leaves."""
    length = table.day.length
    return {name: (table[follows[name]].leaves - ready[name]) % length for name in table.names}


def waits_meet(length, ready, waits, one, other):
    """Whether some moment, taken day after day, is in the waits behind both of two trips."""
    between = ready[other] - ready[one]
    return between % length <= waits[one] or -between % length <= waits[other]


def turns_of(names, follows):
    """The tuple of the turns, ascending; names ascend."""
    turns = []
    seen = {}
    for name in names:
        if name not in seen:
            turn = ring_from(name, follows)
            seen.update({member: True for member in turn})
            turns.append(turn)
    return tuple(turns)


def ring_from(name, follows):
    """The tuple of the names from this one on, each followed by the next one, until it comes again."""
    ring = [name]
    while follows[ring[-1]] != name:
        ring.append(follows[ring[-1]])
    return tuple(ring)


def days_of(table, turns, ready, waits):
    """The dict from each name to the days of its turn."""
    days = {}
    for turn in turns:
        together = sum([ready[name] - table[name].leaves + waits[name] for name in turn])
        days.update({name: together // table.day.length for name in turn})
    return days
