"""The errors of the package, each with the fields that it is made with."""


class TurnError(ValueError):
    """The base of all errors of the package."""


class BadInput(TurnError):
    """A value is not of the kind or the form that is asked for."""


class Refused(TurnError):
    """The values are of the right kinds, but do not go together."""


class BadDay(BadInput):
    """No length of a day."""

    def __init__(self, value):
        self.value = value


class BadName(BadInput):
    """No name."""

    def __init__(self, value):
        self.value = value


class BadNumber(BadInput):
    """Not the number that is asked for."""

    def __init__(self, value):
        self.value = value


class BadClocks(BadInput):
    """The item at this index is no piece of a day."""

    def __init__(self, at):
        self.at = at


class BadTrip(BadInput):
    """This part of a trip is wrong."""

    def __init__(self, part):
        self.part = part


class BadTable(BadInput):
    """The item at this index is no trip."""

    def __init__(self, at):
        self.at = at


class BadPauses(BadInput):
    """The pause at this place is no number."""

    def __init__(self, place):
        self.place = place


class BadPlan(BadInput):
    """What follows behind the trip of this name is wrong; None for the plan as a whole."""

    def __init__(self, name):
        self.name = name


class BadAsk(BadInput):
    """This argument is not of the kind that is asked for."""

    def __init__(self, part):
        self.part = part


class BadText(BadInput):
    """The word at this index of this line cannot stand behind what is ahead of it."""

    def __init__(self, line, word):
        self.line = line
        self.word = word


class BadLine(BadInput):
    """The word at this index of a desk's line cannot stand."""

    def __init__(self, word):
        self.word = word


class NoTrip(Refused):
    """There is no trip of this name."""

    def __init__(self, name):
        self.name = name


class NoPlace(Refused):
    """There is no such place."""

    def __init__(self, place):
        self.place = place


class Twice(Refused):
    """This name comes twice."""

    def __init__(self, name):
        self.name = name


class OutOfDay(Refused):
    """The trip of this name leaves at or behind the length of the day."""

    def __init__(self, name):
        self.name = name


class Unbalanced(Refused):
    """Not as many trips end as start at this place."""

    def __init__(self, place):
        self.place = place


class Unlike(Refused):
    """Two objects differ in this part, or are the same where they must not be."""

    def __init__(self, part):
        self.part = part


class Spare(Refused):
    """A vehicle is spare at this place."""

    def __init__(self, place):
        self.place = place


class TooMany(Refused):
    """More of these than the most that there can be."""

    def __init__(self, what, most):
        self.what = what
        self.most = most


class Lacking(Refused):
    """Nobody is ready for the trip of this name."""

    def __init__(self, name):
        self.name = name
