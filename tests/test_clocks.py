"""Points [2] and [3], clocks.py: held against plain sets of clocks."""

import random
from itertools import combinations, product

from onelongturn.clocks import Clocks
from onelongturn.days import Day
from onelongturn.errors import BadAsk, BadClocks, BadNumber, BadText, Unlike
from tests.support import ANY_VALUES, BILLION_DAY, Checks, any_but, integer, moment


def pieces_of(length, members):
    """The fewest pieces of a plain set of clocks."""
    if len(members) == length:
        return ((0, length - 1),)
    firsts = sorted(clock for clock in members if (clock - 1) % length not in members)
    pieces = []
    for first in firsts:
        last = first
        while (last + 1) % length in members:
            last = (last + 1) % length
        pieces.append((first, last))
    return tuple(pieces)


def text_of(length, members):
    return " ".join(f"{first}-{last}" for first, last in pieces_of(length, members)) or "-"


def members_of(length, pieces):
    """The plain set of clocks of any pieces."""
    members = set()
    for first, last in pieces:
        members |= {(first + step) % length for step in range((last - first) % length + 1)}
    return members


def all_sets(length):
    return [set(some) for many in range(length + 1) for some in combinations(range(length), many)]


def clocks_of(length, members):
    return Clocks.of(Day(length), [(clock, clock) for clock in sorted(members)])


class TestMaking(Checks):
    def hold(self, clocks, length, members):
        self.same(clocks.pieces, pieces_of(length, members))
        self.same(clocks.day == Day(length), True)

    def test_all_sets_of_short_days(self):
        for length in range(1, 7):
            for members in all_sets(length):
                self.hold(clocks_of(length, members), length, members)
                told = pieces_of(length, members)
                self.hold(Clocks(Day(length), *told), length, members)
                self.hold(Clocks.of(Day(length), list(reversed(told))), length, members)

    def test_all_pairs_of_pieces_of_short_days(self):
        for length in range(1, 6):
            pieces = list(product(range(length), repeat=2))
            for one, other in product(pieces, repeat=2):
                members = members_of(length, (one, other))
                self.hold(Clocks(Day(length), one, other), length, members)
                self.hold(Clocks(Day(length), one, other, one), length, members)

    def test_many_pieces(self):
        dice = random.Random(1)
        for _ in range(300):
            length = dice.randint(1, 60)
            pieces = [(dice.randrange(length), dice.randrange(length)) for _ in range(dice.randint(0, 5))]
            self.hold(Clocks(Day(length), *pieces), length, members_of(length, pieces))
            self.hold(Clocks.of(day=Day(length), pieces=tuple(pieces)), length, members_of(length, pieces))

    def test_touching_overlapping_and_twice(self):
        day = Day(24)
        self.same(Clocks(day, (3, 5), (6, 8)).pieces, ((3, 8),))
        self.same(Clocks(day, (3, 6), (5, 8), (3, 6)).pieces, ((3, 8),))
        self.same(Clocks(day, (3, 5), (7, 8)).pieces, ((3, 5), (7, 8)))
        self.same(Clocks(day, (20, 23), (0, 3)).pieces, ((20, 3),))
        self.same(Clocks(day, (20, 22), (0, 3)).pieces, ((0, 3), (20, 22)))
        self.same(Clocks(day, (12, 11)).pieces, ((0, 23),))
        self.same(Clocks(day, (20, 3), (2, 21)).pieces, ((0, 23),))
        self.same(Clocks(day).pieces, ())

    def test_days_of_many_minutes(self):
        day = Day(BILLION_DAY)
        top = BILLION_DAY - 1
        clocks = Clocks(day, (top, 0), (5, 10 ** 11), (10 ** 11 + 1, 10 ** 11 + 1))
        self.same(clocks.pieces, ((5, 10 ** 11 + 1), (top, 0)))
        self.same(Clocks(day, (7, 6)).pieces, ((0, top),))
        self.same(Clocks.whole(day).many, BILLION_DAY)
        self.same((~clocks).pieces, ((1, 4), (10 ** 11 + 2, top - 1)))
        self.same((clocks + 10 ** 69).many, clocks.many)
        self.same([next(iter(Clocks.whole(day).each())), next(iter(Clocks(day, (4, 3)).each()))], [0, 0])

    def test_whole(self):
        for length in (1, 2, 24, BILLION_DAY):
            self.same(Clocks.whole(Day(length)).pieces, ((0, length - 1),))
        for value in any_but(lambda value: isinstance(value, Day)):
            self.raises(BadAsk("day"), Clocks.whole, value)
            self.raises(BadAsk("day"), Clocks.whole, day=value)

    def test_errors_in_their_order(self):
        day = Day(24)
        for value in any_but(lambda value: isinstance(value, Day)):
            self.raises(BadAsk("day"), Clocks, value)
            self.raises(BadAsk("day"), Clocks, value, (1, 2), value)
            self.raises(BadAsk("day"), Clocks.of, value, value)
            self.raises(BadAsk("day"), Clocks.of, value, [(1, 2)])
        for value in any_but(lambda value: isinstance(value, (list, tuple))):
            self.raises(BadAsk("pieces"), Clocks.of, day, value)
        wrong = any_but(lambda value: value == (1, 2)) + [
            [1, 2], (1, 24), (24, 1), (-1, 3), (3, -1), (1, 2, 3), (True, 2), (1, False), (1, None), ("1", "2"),
            ((1,), 2), (10 ** 69, 1),
        ]
        for value in wrong:
            self.raises(BadClocks(0), Clocks, day, value)
            self.raises(BadClocks(0), Clocks, day, value, value)
            self.raises(BadClocks(2), Clocks, day, (1, 2), (2, 1), value, (1, 2), value)
            self.raises(BadClocks(1), Clocks.of, day, [(1, 2), value])
            self.raises(BadClocks(1), Clocks.of, day, ((1, 2), value))

    def test_a_list_that_changes_later(self):
        pieces = [(3, 5)]
        clocks = Clocks.of(Day(24), pieces)
        pieces.append((9, 9))
        pieces[0] = (0, 0)
        self.same([clocks.pieces, list(clocks)], [((3, 5),), [(3, 5)]])
        rows = list(clocks)
        rows.append(1)
        self.same(clocks.pieces, ((3, 5),))


class TestSigns(Checks):
    def test_all_pairs_of_sets_of_short_days(self):
        for length in range(1, 5):
            sets = all_sets(length)
            for one, other in product(sets, repeat=2):
                self.hold_pair(length, one, other)

    def test_pairs_of_sets(self):
        dice = random.Random(2)
        for _ in range(200):
            length = dice.randint(5, 40)
            one, other = ({clock for clock in range(length) if dice.random() < 0.5} for _ in range(2))
            self.hold_pair(length, one, other)
            self.hold_pair(length, one, one | other)
            self.hold_pair(length, one, set(one))

    def hold_pair(self, length, one, other):
        mine, yours = clocks_of(length, one), clocks_of(length, other)
        told = [mine | yours, mine & yours, mine - yours, mine ^ yours, ~mine]
        wanted = [one | other, one & other, one - other, one ^ other, set(range(length)) - one]
        self.assertEqual([clocks.pieces for clocks in told], [pieces_of(length, members) for members in wanted])
        self.assertTrue(all(type(clocks) is Clocks and clocks.day == Day(length) for clocks in told))
        told = [mine <= yours, mine < yours, mine >= yours, mine > yours, mine == yours, mine != yours]
        self.same(told, [one <= other, one < other, one >= other, one > other, one == other, one != other])
        self.same([mine.pieces, yours.pieces], [pieces_of(length, one), pieces_of(length, other)])

    def test_moving(self):
        for length in range(1, 6):
            for members in all_sets(length):
                clocks = clocks_of(length, members)
                for k in (*range(-length - 1, length + 2), 10 ** 69, -(10 ** 69)):
                    later = pieces_of(length, {(clock + k) % length for clock in members})
                    self.same([(clocks + k).pieces, (k + clocks).pieces, (clocks - -k).pieces], [later] * 3)

    def test_in_place(self):
        day = Day(24)
        first, other = Clocks(day, (3, 8)), Clocks(day, (6, 10))
        made = []
        for at in range(6):
            clocks = first
            if at == 0:
                clocks |= other
            if at == 1:
                clocks &= other
            if at == 2:
                clocks -= other
            if at == 3:
                clocks ^= other
            if at == 4:
                clocks += 20
            if at == 5:
                clocks -= 5
            made.append(clocks.pieces)
        self.same(made, [((3, 10),), ((6, 8),), ((3, 5),), ((3, 5), (9, 10)), ((23, 4),), ((22, 3),)])
        self.same([first.pieces, other.pieces], [((3, 8),), ((6, 10),)])

    def test_wrong_values_at_signs(self):
        clocks = Clocks(Day(24), (3, 5))
        for value in any_but(lambda value: isinstance(value, Clocks)):
            self.raises(BadAsk("clocks"), lambda: clocks | value)
            self.raises(BadAsk("clocks"), lambda: clocks & value)
            self.raises(BadAsk("clocks"), lambda: clocks ^ value)
            self.raises(BadAsk("clocks"), lambda: clocks <= value)
            self.raises(BadAsk("clocks"), lambda: clocks < value)
            self.raises(BadAsk("clocks"), lambda: clocks >= value)
            self.raises(BadAsk("clocks"), lambda: clocks > value)
        for value in any_but(lambda value: isinstance(value, Clocks) or integer(value)):
            self.raises(BadNumber(value), lambda: clocks - value)
        for value in any_but(integer):
            self.raises(BadNumber(value), lambda: clocks + value)
        for value in any_but(lambda value: integer(value) or hasattr(type(value), "__add__") and type(value) not in
                             (bool, str, list, tuple)):
            self.raises(BadNumber(value), lambda: value + clocks)

    def test_in_place_with_wrong_values(self):
        clocks = first = Clocks(Day(24), (3, 5))
        with self.assertRaises(BadAsk):
            clocks |= 5
        with self.assertRaises(BadNumber):
            clocks += None
        with self.assertRaises(BadNumber):
            clocks -= "a"
        self.assertIs(clocks, first)

    def test_sets_of_unlike_days(self):
        one, other = Clocks(Day(24), (3, 5)), Clocks(Day(23), (3, 5))
        for call in (lambda: one | other, lambda: one & other, lambda: one - other, lambda: one ^ other,
                     lambda: one <= other, lambda: one < other, lambda: one >= other, lambda: one > other):
            self.raises(Unlike("day"), call)
        self.raises(BadNumber(other), lambda: one + other)
        self.same([one == other, one != other, Clocks(Day(24)) == Clocks(Day(23))], [False, True, False])

    def test_equal_to_nothing_else(self):
        clocks = Clocks(Day(24), (3, 5))
        for value in any_but(lambda value: isinstance(value, Clocks) and value.pieces == ((3, 5),)):
            self.same([clocks == value, clocks != value], [False, True])
        self.same(clocks == ((3, 5),), False)


class TestQuestions(Checks):
    def test_all_sets_of_short_days(self):
        for length in range(1, 7):
            for members in all_sets(length):
                self.hold(length, members)

    def hold(self, length, members):
        clocks, told = clocks_of(length, members), pieces_of(length, members)
        self.same(list(clocks), list(told))
        self.same([len(clocks), bool(clocks), clocks.many], [len(told), bool(told), len(members)])
        self.same(list(clocks.each()), sorted(members))
        sizes = [(last - first) % length + 1 for first, last in told]
        self.same(clocks.longest, max(sizes, default=0))
        for x in range(-2, length + 2):
            self.same(x in clocks, x in members)
        for x in range(-2 * length, 2 * length):
            later = [y for y in range(x, x + length) if y % length in members]
            self.same(clocks.first_from(x), later[0] if later else None)
        self.same(str(clocks), text_of(length, members))

    def test_any_value_in(self):
        clocks = Clocks(Day(24), (0, 1), (7, 9))
        for value in ANY_VALUES:
            self.same(value in clocks, integer(value) and value in (0, 1, 7, 8, 9))
        self.same([True in clocks, False in clocks], [False, False])

    def test_items(self):
        clocks = Clocks(Day(24), (2, 3), (7, 9), (20, 0))
        self.same([clocks[0], clocks[-1], clocks[2]], [(2, 3), (20, 0), (20, 0)])
        self.same([clocks[0:2], clocks[1:], clocks[::-1][0], clocks[5:]],
                  [((2, 3), (7, 9)), ((7, 9), (20, 0)), (20, 0), ()])
        for at in (3, -4, 10 ** 6):
            with self.assertRaises(IndexError):
                clocks[at]
        with self.assertRaises(IndexError):
            Clocks(Day(24))[0]

    def test_first_from_far_moments(self):
        for length in (24, BILLION_DAY):
            clocks = Clocks(Day(length), (5, 7))
            for x in (10 ** 60 - 1, -(10 ** 60 - 1), 10 ** 59 + 3):
                found = clocks.first_from(moment=x)
                self.assertTrue(found % length in (5, 6, 7) and 0 <= found - x < length)
                self.assertTrue(found == x or found % length == 5)
        self.same(Clocks(Day(24)).first_from(10 ** 59), None)

    def test_first_from_no_moment(self):
        for value in any_but(moment) + [10 ** 60, -(10 ** 60)]:
            for clocks in (Clocks(Day(24)), Clocks(Day(24), (3, 5))):
                self.raises(BadNumber(value), clocks.first_from, value)


class TestTexts(Checks):
    def test_each_text_of_short_days(self):
        for length in range(1, 6):
            right = {text_of(length, members): members for members in all_sets(length)}
            bounds = [str(clock) for clock in range(length)]
            words = [f"{first}-{last}" for first in bounds for last in bounds] + ["-", ""]
            most = 3 if length < 5 else 2
            for many in range(1, most + 1):
                for told in product(words, repeat=many):
                    self.hold(length, right, " ".join(told))

    def hold(self, length, right, text):
        if text in right:
            clocks = Clocks.read(Day(length), text)
            self.assertEqual((str(clocks), clocks.pieces), (text, pieces_of(length, right[text])))
            return
        words = text.split(" ")
        wrong = next(at for at in range(len(words)) if " ".join(words[:at + 1]) not in right)
        self.raises(BadText(0, wrong), Clocks.read, Day(length), text)

    def test_words_that_no_set_has(self):
        day = Day(24)
        for word in ("", "3", "3-", "-3", "3-5-7", "03-5", "3-05", "3-24", "24-3", "a-b", "3 -5", "3-5\n", "\n", "+3-5",
                     "3--5", "--", "3-1000000000000", "3-" + "9" * 2000, "\u0663-5", "3_-5", "0-\u00b2", "(3,5)"):
            at = 0
            self.raises(BadText(0, at), Clocks.read, day, word)
            self.raises(BadText(0, at), Clocks.read, day, word + " 7-8")
            if word:
                self.raises(BadText(0, 1), Clocks.read, day, "0-0 " + word)
                self.raises(BadText(0, 2), Clocks.read, day, "0-0 2-2 " + word + " ?")
        self.raises(BadText(0, 1), Clocks.read, day, "3-5  7-8")
        self.raises(BadText(0, 1), Clocks.read, day, "3-5 ")
        self.raises(BadText(0, 1), Clocks.read, day, "- 3-5")
        self.raises(BadText(0, 1), Clocks.read, day, "- -")
        self.raises(BadText(0, 1), Clocks.read, day, "3-5 -")

    def test_words_behind_others(self):
        day = Day(24)
        for text, wrong in (
            ("3-5 6-8", 1), ("3-5 5-8", 1), ("3-5 2-8", 1), ("3-5 7-6", 1), ("3-5 7-2", 1), ("3-5 7-3", 1),
            ("22-1 3-4", 1), ("0-1 20-23", 1), ("0-1 20-22 23-23", 2), ("5-4", 0), ("3-5 9-1 11-12", 2),
            ("0-0 20-0", 1), ("1-1 20-0", 1), ("0-23 5-6", 1), ("1-23 5-6", 1), ("5-6 8-23 1-2", 2),
        ):
            self.raises(BadText(0, wrong), Clocks.read, day, text)
        for text in ("3-5 7-1", "22-1", "0-1 20-22", "0-23", "1-23", "2-2 20-0", "-", "5-3", "0-0", "23-23", "23-0"):
            self.same(str(Clocks.read(day=day, text=text)), text)

    def test_days_of_many_minutes(self):
        day = Day(BILLION_DAY)
        for text in ("0-999999999999", "5-7 999999999999-0", "1-999999999999", "999999999998-999999999999"):
            self.same(str(Clocks.read(day, text)), text)
        self.raises(BadText(0, 0), Clocks.read, day, "0-1000000000000")
        self.raises(BadText(0, 1), Clocks.read, day, "0-1 5-999999999999")

    def test_wrong_values(self):
        for value in any_but(lambda value: isinstance(value, Day)):
            self.raises(BadAsk("day"), Clocks.read, value, "-")
            self.raises(BadAsk("day"), Clocks.read, value, value)
        for value in any_but(lambda value: isinstance(value, str)):
            self.raises(BadText(0, 0), Clocks.read, Day(24), value)
