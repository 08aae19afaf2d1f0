"""Plans: what the vehicle of each trip does next, and the turns that this makes."""

from onelongturn.asked import asked_pauses, check_place, check_table, ready_moment
from onelongturn.curves import covering
from onelongturn.errors import BadPlan, NoTrip, Unlike


class Plan:
    """For each trip of a table the trip that its vehicle does next."""

    def __init__(self, table, pauses, follows):
        check_table(table)
        told = asked_pauses(pauses)
        check_follows(table, follows)
        self.table = table
        self.pauses = told
        self._follows = {name: follows[name] for name in table.names}
        self._waits = {name: wait_behind(table, told, name, follows[name]) for name in table.names}
        self._turns = turns_of(table.names, self._follows)
        minutes = {name: busy_minutes(table, told, name) + self._waits[name] for name in table.names}
        self._days = days_of(table.day, self._turns, minutes)

    @property
    def follows(self):
        """The dict from each name to the next one."""
        return dict(self._follows)

    @property
    def vehicles(self):
        """How many vehicles the plan has."""
        return sum([self._days[turn[0]] for turn in self._turns])

    @property
    def turns(self):
        """The tuple of the turns, each a tuple of names from its least one on."""
        return self._turns

    @property
    def is_one(self):
        """Whether there is just one turn."""
        return len(self._turns) == 1

    def __getitem__(self, at):
        if at not in self.table:
            raise NoTrip(at)
        return self._follows[at]

    def __len__(self):
        return len(self._turns)

    def __iter__(self):
        return iter(self._turns)

    def __eq__(self, other):
        if not isinstance(other, Plan):
            return False
        return self.table == other.table and self.pauses == other.pauses and self._follows == other._follows

    def wait(self, name):
        """The wait behind a trip."""
        self.check_name(name)
        return self._waits[name]

    def days(self, name):
        """The days of the turn of a trip."""
        self.check_name(name)
        return self._days[name]

    def curve(self, place):
        """How many vehicles stand at a place in the minute of each clock."""
        check_place(self.table, place)
        ending = [trip for trip in self.table if trip.goal == place]
        return covering(self.table.day, [(ready_moment(trip, self.pauses), self._waits[trip.name]) for trip in ending])

    def spare(self, place):
        """How many vehicles are spare at a place."""
        return self.curve(place).least

    def meet(self, one, other):
        """Whether two trips meet: whether some moment is in the waits behind both."""
        self.check_two(one, other)
        first = ready_moment(self.table[one], self.pauses)
        second = ready_moment(self.table[other], self.pauses)
        day = self.table.day
        return day.forward(first, second) <= self._waits[one] or day.forward(second, first) <= self._waits[other]

    def swapped(self, one, other):
        """The plan in which two trips have exchanged their next trips."""
        self.check_two(one, other)
        follows = self.follows
        follows[one], follows[other] = follows[other], follows[one]
        return Plan(self.table, self.pauses, follows)

    def walk(self, name):
        """Endlessly what a vehicle does that leaves with this trip on day 0: (name, leaving, ready moment)."""
        self.check_name(name)
        moment = self.table[name].leaves
        while True:
            ready = moment + busy_minutes(self.table, self.pauses, name)
            yield (name, moment, ready)
            moment = ready + self._waits[name]
            name = self._follows[name]

    def check_name(self, name):
        """Raises NoTrip(name) for any value that is no name of a trip of the table."""
        if name not in self.table:
            raise NoTrip(name)

    def check_two(self, one, other):
        """Raises NoTrip(value), Unlike("trip"), Unlike("place") unless two trips end at one place."""
        self.check_name(one)
        self.check_name(other)
        if one == other:
            raise Unlike("trip")
        if self.table[one].goal != self.table[other].goal:
            raise Unlike("place")


def check_follows(table, follows):
    """Raises BadPlan(None), BadPlan(name) for any value that tells no plan of the table."""
    if not isinstance(follows, dict) or len(follows) != len(table):
        raise BadPlan(None)
    if not all([name in follows and follows[name] in table for name in table.names]):
        raise BadPlan(None)
    if len(set([follows[name] for name in table.names])) != len(table):
        raise BadPlan(None)
    for name in table.names:
        if table[follows[name]].start != table[name].goal:
            raise BadPlan(name)


def wait_behind(table, pauses, name, follower):
    """The least number of minutes from the ready moment of a trip to a moment at which the next one leaves."""
    return (table[follower].leaves - ready_moment(table[name], pauses)) % table.day.length


def turns_of(names, follows):
    """The tuple of the turns, ascending; names ascend."""
    turns = []
    seen = {}
    for name in names:
        if name not in seen:
            turn = ring_from(name, follows)
            seen.update({member: True for member in turn})
            turns.append(turn)
    return tuple(turns)


def ring_from(name, follows):
    """The tuple of the names from this one on, each followed by the next one, until it comes again."""
    ring = [name]
    while follows[ring[-1]] != name:
        ring.append(follows[ring[-1]])
    return tuple(ring)


def busy_minutes(table, pauses, name):
    """How long a trip takes, with the pause behind it."""
    return ready_moment(table[name], pauses) - table[name].leaves


def days_of(day, turns, minutes):
    """The dict from each name to the days of its turn; minutes tells those of each trip with all that is behind it."""
    days = {}
    for turn in turns:
        together = sum([minutes[name] for name in turn])
        days.update({name: together // day.length for name in turn})
    return days
