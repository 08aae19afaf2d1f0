"""Points [2], [4] and [5], trips.py."""

from onelongturn.clocks import Clocks
from onelongturn.errors import BadNumber, BadText, BadTrip
from onelongturn.tables import Pauses
from onelongturn.trips import Paused, Run, Stay, Trip
from tests.support import ANY_VALUES, Checks, any_but, integer, name, number

TOP = 10 ** 12


def takes(value):
    return integer(value) and 1 <= value <= TOP


class TestMaking(Checks):
    def test_attributes(self):
        run = Run("p", "a", 6, 2, "b")
        self.same([run.name, run.start, run.leaves, run.takes, run.goal], ["p", "a", 6, 2, "b"])
        run = Run(goal="abcdefgh", takes=TOP, leaves=TOP, start="hgfedcba", name="zzzzzzzz")
        told = [run.name, run.start, run.leaves, run.takes, run.goal]
        self.same(told, ["zzzzzzzz", "hgfedcba", TOP, TOP, "abcdefgh"])
        stay = Stay("w", "a", 0, 1)
        self.same([stay.name, stay.start, stay.leaves, stay.takes, stay.goal], ["w", "a", 0, 1, "a"])
        stay = Stay(takes=3, leaves=2, place="b", name="w")
        self.same([stay.name, stay.start, stay.leaves, stay.takes, stay.goal], ["w", "b", 2, 3, "b"])
        self.same(Run("p", "a", 6, 2, "a").goal, "a")

    def test_which_stands_below_which(self):
        run, stay = Run("p", "a", 6, 2, "a"), Stay("p", "a", 6, 2)
        self.same([isinstance(run, Trip), isinstance(run, Paused), isinstance(run, Stay)], [True, True, False])
        self.same([isinstance(stay, Trip), isinstance(stay, Paused), isinstance(stay, Run)], [True, False, False])
        self.same([issubclass(Trip, Paused), issubclass(Paused, Trip)], [False, False])

    def test_each_wrong_part(self):
        for value in any_but(name):
            self.raises(BadTrip("name"), Run, value, "a", 6, 2, "b")
            self.raises(BadTrip("name"), Stay, value, "a", 6, 2)
            self.raises(BadTrip("place"), Run, "p", value, 6, 2, "b")
            self.raises(BadTrip("place"), Run, "p", "a", 6, 2, value)
            self.raises(BadTrip("place"), Run, "p", value, 6, 2, value)
            self.raises(BadTrip("place"), Stay, "p", value, 6, 2)
        for value in any_but(number) + [-1, TOP + 1]:
            self.raises(BadTrip("leaves"), Run, "p", "a", value, 2, "b")
            self.raises(BadTrip("leaves"), Stay, "p", "a", value, 2)
        for value in any_but(takes) + [0, -1, TOP + 1]:
            self.raises(BadTrip("takes"), Run, "p", "a", 6, value, "b")
            self.raises(BadTrip("takes"), Stay, "p", "a", 6, value)

    def test_several_wrong_parts(self):
        for value in any_but(lambda value: name(value) or number(value)):
            self.raises(BadTrip("name"), Run, value, value, value, value, value)
            self.raises(BadTrip("place"), Run, "p", value, value, value, value)
            self.raises(BadTrip("place"), Run, "p", "a", value, value, value)
            self.raises(BadTrip("leaves"), Run, "p", "a", value, value, "b")
            self.raises(BadTrip("name"), Stay, value, value, value, value)
            self.raises(BadTrip("place"), Stay, "p", value, value, value)
            self.raises(BadTrip("leaves"), Stay, "p", "a", value, value)

    def test_names(self):
        for wrong in ("", "abcdefghi", "A", "aB", "a1", "a ", " a", "a\n", "\u00e4", "a-b", b"a"):
            self.raises(BadTrip("name"), Run, wrong, "a", 6, 2, "b")


class TestReady(Checks):
    def test_ready(self):
        for pause in (0, 1, 5, TOP):
            self.same(Run("p", "a", 6, 2, "b").ready(pause), 8 + pause)
            self.same(Run("p", "a", 6, 2, "b")(pause), 8 + pause)
            self.same(Stay("p", "a", 6, 2).ready(pause), 8)
            self.same(Stay("p", "a", 6, 2)(pause), 8)
        self.same(Run("p", "a", TOP, TOP, "b").ready(pause=TOP), 3 * TOP)
        self.same(Run("p", "a", TOP, TOP, "b")(pause=TOP), 3 * TOP)
        self.same(Stay("p", "a", TOP, TOP)(pause=TOP), 2 * TOP)


class TestMoving(Checks):
    def test_later_and_earlier(self):
        for trip in (Run("p", "a", 6, 2, "b"), Stay("p", "a", 6, 2)):
            for k in (0, 1, -1, 6, -6, TOP - 6):
                self.same([(trip + k).leaves, type(trip + k), (trip + k) - k == trip], [6 + k, type(trip), True])
            for k in (0, 1, -1, 6, -6, 6 - TOP):
                self.same([(trip - k).leaves, (trip - k) + k == trip], [6 - k, True])
            self.same((trip + 10) == trip, False)
            self.same(trip.leaves, 6)
        self.same(str(Run("p", "a", 6, 2, "b") + 4), "run p a 10 2 b")
        self.same(str(Stay("p", "a", 6, 2) - 4), "stay p a 2 2")

    def test_in_place_the_name_is_bound_anew(self):
        trip = first = Run("p", "a", 6, 2, "b")
        trip += 3
        trip -= 1
        self.same([trip.leaves, first.leaves], [8, 6])

    def test_beyond_the_bounds(self):
        for trip in (Run("p", "a", 6, 2, "b"), Stay("p", "a", 6, 2)):
            for k in (-7, TOP - 5, 10 ** 69, -(10 ** 69)):
                self.raises(BadNumber(k), lambda: trip + k)
                self.raises(BadNumber(-k), lambda: trip - -k)
            for value in any_but(integer):
                self.raises(BadNumber(value), lambda: trip + value)
                self.raises(BadNumber(value), lambda: trip - value)


class TestComparing(Checks):
    def setUp(self):
        self.trips = [
            kind(word, *rest) for word in ("a", "ab", "b") for leaves in (0, 9, 10)
            for kind, rest in ((Run, ("x", leaves, 1, "x")), (Run, ("x", leaves, 2, "y")), (Stay, ("x", leaves, 1)))
        ]

    def test_order(self):
        for one in self.trips:
            for other in self.trips:
                less = (one.leaves, one.name) < (other.leaves, other.name)
                more = (one.leaves, one.name) > (other.leaves, other.name)
                self.same([one < other, one <= other, one > other, one >= other], [less, not more, more, not less])

    def test_sorted(self):
        order = [(trip.leaves, trip.name) for trip in sorted(self.trips)]
        self.assertEqual(order, sorted(order))

    def test_equal(self):
        for at, one in enumerate(self.trips):
            for where, other in enumerate(self.trips):
                self.same([one == other, one != other], [at == where, at != where])
            self.same(one == Trip.read(str(one)), True)
        changed = [
            Run("q", "a", 6, 2, "b"), Run("p", "c", 6, 2, "b"), Run("p", "a", 7, 2, "b"), Run("p", "a", 6, 3, "b"),
            Run("p", "a", 6, 2, "c"), Stay("p", "a", 6, 2),
        ]
        for other in changed:
            self.same(Run("p", "a", 6, 2, "b") == other, False)
        self.same([Run("p", "a", 6, 2, "a") == Stay("p", "a", 6, 2), Stay("p", "a", 6, 2) == Stay("p", "a", 6, 2)],
                  [False, True])

    def test_the_methods_of_the_base_itself(self):
        for one in self.trips:
            self.same([Trip.ready(one, 7), Trip.__str__(one)], [one.leaves + one.takes, str(one)])
            self.same([Trip.__add__(one, 3) == one + 3, Trip.__sub__(one + 3, 3) == one], [True, True])
            for other in self.trips:
                told = [Trip.__lt__(one, other), Trip.__le__(one, other), Trip.__eq__(one, other)]
                self.same(told, [one < other, one <= other, one == other])

    def test_no_order_with_other_values(self):
        for value in any_but(lambda value: isinstance(value, (Trip, Clocks, Pauses))):
            for trip in self.trips[:3]:
                with self.assertRaises(TypeError):
                    trip < value
                with self.assertRaises(TypeError):
                    trip <= value

    def test_equal_to_nothing_else(self):
        for value in any_but(lambda value: isinstance(value, Trip)):
            for trip in (Run("p", "a", 6, 2, "b"), Stay("p", "a", 6, 2)):
                self.same([trip == value, trip != value], [False, True])


class TestTexts(Checks):
    def test_right_texts(self):
        for trip in (Run("p", "a", 0, 1, "b"), Run("zzzzzzzz", "a", TOP, TOP, "a"), Stay("p", "a", 0, 1),
                     Stay("p", "abcdefgh", TOP, TOP), Run("run", "stay", 10, 20, "run"), Stay("stay", "run", 1, 1)):
            again = Trip.read(str(trip))
            self.same([again == trip, type(again) is type(trip), str(again) == str(trip)], [True, True, True])
        self.same(Trip.read(text="stay w a 6 2") == Stay("w", "a", 6, 2), True)

    def test_no_string(self):
        for value in any_but(lambda value: isinstance(value, str)):
            self.raises(BadText(0, 0), Trip.read, value)

    def spoil(self, words, at, wrong):
        for word in wrong:
            rest = words[at + 1:]
            self.raises(BadText(0, at), Trip.read, " ".join(words[:at] + [word] + rest))
            self.raises(BadText(0, at), Trip.read, " ".join(words[:at] + [word] + ["?" for _ in rest]))
            self.raises(BadText(0, at), Trip.read, " ".join(words[:at] + [word]))

    def test_each_word_spoilt(self):
        no_names = ["", "A", "a1", "abcdefghi", "1", "a\n", "\n", "-", "a\u00e4"]
        no_numbers = ["", "a", "-1", "+1", "01", "00", "1 ".strip() + "\n", "1000000000001", "10000000000000", "1_0",
                      "9" * 2000, "\u0661", "\u00b2", "1.0", "-0"]
        for text in ("run p a 6 2 b", "stay p a 6 2"):
            words = text.split(" ")
            self.spoil(words, 0, ["", "Run", "runs", "stay\n", "trip", "p", "day"])
            self.spoil(words, 1, no_names)
            self.spoil(words, 2, no_names)
            self.spoil(words, 3, no_numbers)
            self.spoil(words, 4, no_numbers + ["0"])
        self.spoil("run p a 6 2 b".split(" "), 5, no_names)

    def test_words_missing_and_too_many(self):
        for text in ("run p a 6 2 b", "stay p a 6 2"):
            words = text.split(" ")
            for many in range(1, len(words)):
                self.raises(BadText(0, many), Trip.read, " ".join(words[:many]))
                self.raises(BadText(0, many), Trip.read, " ".join(words[:many]) + " ")
            self.raises(BadText(0, len(words)), Trip.read, text + " x")
            self.raises(BadText(0, len(words)), Trip.read, text + " ")
            self.raises(BadText(0, len(words) - 1), Trip.read, text + "\n")
            self.raises(BadText(0, len(words) - 1), Trip.read, text + "\n" + text)
            self.raises(BadText(0, 0), Trip.read, " " + text)
        self.raises(BadText(0, 0), Trip.read, "")
        self.raises(BadText(0, 2), Trip.read, "run p  a 6 2 b")
        self.raises(BadText(0, 5), Trip.read, "stay p a 6 2 a")

    def test_only_right_texts_are_read(self):
        for value in ANY_VALUES:
            self.raises(BadText(0, 1 if value == "run" else 0), Trip.read, value)
