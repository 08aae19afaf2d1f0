"""Sets of clocks of a day."""

from onelongturn.days import Day
from onelongturn.errors import BadAsk, BadClocks, BadNumber, BadText, Unlike
from onelongturn.kinds import is_int, is_moment
from onelongturn.spans import fewest_pieces, gaps_between, spans_of
from onelongturn.words import read_number


class Clocks:
    """A set of clocks of a day, told by pieces (first, last)."""

    def __init__(self, day, *pieces):
        if not isinstance(day, Day):
            raise BadAsk("day")
        for at, piece in enumerate(pieces):
            if not is_piece(day, piece):
                raise BadClocks(at)
        self.day = day
        self.pieces = fewest_pieces(day.length, pieces)

    @staticmethod
    def of(day, pieces):
        """The set of a list or tuple of pieces."""
        if not isinstance(day, Day):
            raise BadAsk("day")
        if not isinstance(pieces, (list, tuple)):
            raise BadAsk("pieces")
        return Clocks(day, *pieces)

    @staticmethod
    def whole(day):
        """All clocks of a day."""
        if not isinstance(day, Day):
            raise BadAsk("day")
        return Clocks(day, (0, day.length - 1))

    @staticmethod
    def read(day, text):
        """The set with just this text."""
        if not isinstance(day, Day):
            raise BadAsk("day")
        if not isinstance(text, str):
            raise BadText(0, 0)
        words = text.split(" ")
        if words[0] == "-":
            if len(words) > 1:
                raise BadText(0, 1)
            return Clocks(day)
        return Clocks.of(day, read_pieces(day, words))

    def __iter__(self):
        return iter(self.pieces)

    def __len__(self):
        return len(self.pieces)

    def __bool__(self):
        return bool(self.pieces)

    def __getitem__(self, at):
        return self.pieces[at]

    def __contains__(self, x):
        return x in self.day and any([is_within(self.day, piece, x) for piece in self.pieces])

    def __eq__(self, other):
        return isinstance(other, Clocks) and self.day == other.day and self.pieces == other.pieces

    def __le__(self, other):
        check_fitting(self, other)
        return not (self - other).pieces

    def __lt__(self, other):
        check_fitting(self, other)
        return self <= other and not self == other

    def __ge__(self, other):
        check_fitting(self, other)
        return other <= self

    def __gt__(self, other):
        check_fitting(self, other)
        return other < self

    def __or__(self, other):
        check_fitting(self, other)
        return Clocks.of(self.day, self.pieces + other.pieces)

    def __and__(self, other):
        check_fitting(self, other)
        return ~(~self | ~other)

    def __xor__(self, other):
        check_fitting(self, other)
        return (self - other) | (other - self)

    def __invert__(self):
        spans = spans_of(self.day.length, self.pieces)
        return Clocks.of(self.day, gaps_between(self.day.length, spans))

    def __sub__(self, other):
        if isinstance(other, Clocks):
            check_fitting(self, other)
            return self & ~other
        if not is_int(other):
            raise BadNumber(other)
        return later_clocks(self, -other)

    def __add__(self, other):
        return later_clocks(self, other)

    def __radd__(self, other):
        return later_clocks(self, other)

    @property
    def longest(self):
        """How many clocks the longest piece has, 0 without any."""
        return max([int(size_of(self.day, piece)) for piece in self.pieces], default=0)

    @property
    def many(self):
        """How many clocks there are."""
        return sum([size_of(self.day, piece) for piece in self.pieces])

    def each(self):
        """The clocks, ascending."""
        for first, last in spans_of(self.day.length, self.pieces):
            for clock in range(first, last + 1):
                yield clock

    def first_from(self, moment):
        """The first moment from this one on whose clock is in the set, None if it is empty."""
        if not is_moment(moment):
            raise BadNumber(moment)
        if not self.pieces:
            return None
        clock = moment % self.day
        if clock in self:
            return moment
        return moment + min([int(self.day.forward(clock, piece[0])) for piece in self.pieces])

    def __str__(self):
        if not self.pieces:
            return "-"
        return " ".join([f"{first}-{last}" for first, last in self.pieces])


def is_piece(day, value):
    """Whether any value is a tuple of two clocks of the day."""
    return isinstance(value, tuple) and len(value) == 2 and value[0] in day and value[1] in day


def size_of(day, piece):
    """How many clocks a piece has."""
    first, last = piece
    return (last - first) % day.length + 1


def is_within(day, piece, clock):
    """Whether a clock is in a piece."""
    return (clock - piece[0]) % day.length < size_of(day, piece)


def check_fitting(one, other):
    """Raises BadAsk("clocks") for any value that is no Clocks, Unlike("day") for one of another day."""
    if not isinstance(other, Clocks):
        raise BadAsk("clocks")
    if not one.day == other.day:
        raise Unlike("day")


def later_clocks(clocks, k):
    """Each clock moved by k minutes, of any sign; raises BadNumber(k) for any value that is no integer."""
    if not is_int(k):
        raise BadNumber(k)
    length = clocks.day.length
    return Clocks.of(clocks.day, [((first + k) % length, (last + k) % length) for first, last in clocks.pieces])


def read_pieces(day, words):
    """The pieces that the words tell; raises BadText(0, word) with the first word that cannot stand."""
    pieces = []
    for at, word in enumerate(words):
        piece = read_piece(day, word)
        if piece is None or not can_stand(day, pieces, piece):
            raise BadText(0, at)
        pieces.append(piece)
    return pieces


def read_piece(day, word):
    """The piece that a word FIRST-LAST tells, None for any other word."""
    first, _, last = word.partition("-")
    piece = (read_number(first, 0), read_number(last, 0))
    return piece if is_piece(day, piece) else None


def can_stand(day, ahead, piece):
    """Whether a piece can be the next one of a text, behind the pieces ahead of it."""
    first, last = piece
    opening = ahead[0][0] if ahead else first
    if last < first:
        ends_well = last < opening - 1
    else:
        ends_well = not ahead or opening > 0 or last < day.length - 1
    return ends_well and (not ahead or stands_behind(ahead[-1], first))


def stands_behind(ahead, first):
    """Whether a piece that begins at first can stand behind the one ahead: touching, the two would be one."""
    return ahead[0] <= ahead[1] and first >= ahead[1] + 2
