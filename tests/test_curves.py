"""Points [2], [5] and [7], curves.py: held against plain lists of a number for each minute."""

import random

from onelongturn.clocks import Clocks
from onelongturn.curves import Curve, pausing, stands, under_way
from onelongturn.days import Day
from onelongturn.errors import BadAsk, BadNumber, NoPlace, Unlike
from onelongturn.plans import Plan
from onelongturn.tables import Pauses, Table
from onelongturn.trips import Run, Stay
from tests.support import BILLION_DAY, Checks, any_but, balanced_trips, integer, moment, random_plan

FAR = 10 ** 60 - 1


def heights(curve):
    """The number for each minute of a short day."""
    return [curve[clock] for clock in range(curve.day.length)]


def steps_of(plain):
    """The fewest steps of a plain list."""
    return tuple((at, number) for at, number in enumerate(plain) if at == 0 or plain[at - 1] != number)


def curve_of(plain):
    return Curve(Day(len(plain)), list(enumerate(plain)))


def plain_lists(seed, many, most=12):
    dice = random.Random(seed)
    for _ in range(many):
        length = dice.randint(1, most)
        yield dice, [dice.randint(-2, 2) for _ in range(length)], [dice.randint(-2, 2) for _ in range(length)]


class TestMaking(Checks):
    def test_steps(self):
        for _, plain, _ in plain_lists(5, 300):
            curve = curve_of(plain)
            self.same(curve.steps, steps_of(plain))
            self.same(heights(curve), plain)
            self.same(Curve(day=Day(len(plain)), steps=steps_of(plain)).steps, steps_of(plain))
            firsts = [clock for clock, _ in steps_of(plain)]
            ends = [clock - 1 for clock in firsts[1:]] + [len(plain) - 1]
            self.same(list(curve), [(first, end, plain[first]) for first, end in zip(firsts, ends)])
            self.same([curve.least, curve.greatest], [min(plain), max(plain)])
        self.same(Curve(Day(24), [(0, 3), (5, 3), (6, 4), (23, 4)]).steps, ((0, 3), (6, 4)))
        self.assertTrue(Curve(Day(24), [(0, 3)]).day == Day(24))

    def test_long_days_and_great_numbers(self):
        curve = Curve(Day(BILLION_DAY), ((0, 10 ** 69), (BILLION_DAY - 1, -(10 ** 69))))
        self.same([curve[-1], curve[FAR], curve[BILLION_DAY - 2]], [-(10 ** 69), -(10 ** 69), 10 ** 69])
        self.same(list(curve), [(0, BILLION_DAY - 2, 10 ** 69), (BILLION_DAY - 1, BILLION_DAY - 1, -(10 ** 69))])
        self.same([curve.least, curve.greatest], [-(10 ** 69), 10 ** 69])

    def test_wrong_values(self):
        for value in any_but(lambda value: isinstance(value, Day)):
            self.raises(BadAsk("day"), Curve, value, [(0, 1)])
            self.raises(BadAsk("day"), Curve, value, value)
        wrong = any_but(lambda value: False) + [
            [(1, 1)], [(0, 1), (0, 2)], [(0, 1), (5, 2), (4, 1)], [(0, 1), (24, 1)], [(0, True)], [(False, 1)],
            [[0, 1]], [(0, 1), [1, 2]], [(0, 1, 2)], [(0,)], [(0, None)], [(0, "1")], [(0, 1), None], ((0, 1), (-1, 1)),
            [(0, 1), (True, 1)], {0: 1}, [(0, 1), (3, ())],
        ]
        for value in wrong:
            self.raises(BadAsk("steps"), Curve, Day(24), value)

    def test_a_list_that_changes_later(self):
        steps = [(0, 1)]
        curve = Curve(Day(24), steps)
        steps.append((1, 2))
        self.same(curve.steps, ((0, 1),))


class TestAsking(Checks):
    def test_moments_of_any_sign(self):
        for _, plain, _ in plain_lists(6, 100):
            curve = curve_of(plain)
            for x in (*range(-25, 26), FAR, -FAR):
                self.same(curve[x], plain[x % len(plain)])
        for value in any_but(moment) + [10 ** 60, -(10 ** 60)]:
            self.raises(BadNumber(value), lambda: Curve(Day(24), [(0, 1)])[value])

    def test_moved(self):
        for _, plain, _ in plain_lists(7, 100):
            curve = curve_of(plain)
            for k in (*range(-13, 14), 10 ** 69, -(10 ** 69)):
                wanted = [plain[(clock - k) % len(plain)] for clock in range(len(plain))]
                self.same(curve.moved(k).steps, steps_of(wanted))
            self.same(curve.steps, steps_of(plain))
        for value in any_but(integer):
            self.raises(BadNumber(value), Curve(Day(24), [(0, 1)]).moved, value)
        far = Curve(Day(BILLION_DAY), [(0, 1), (5, 2)]).moved(k=-6)
        self.same(far.steps, ((0, 2), (BILLION_DAY - 6, 1), (BILLION_DAY - 1, 2)))

    def test_where(self):
        for _, plain, _ in plain_lists(8, 100):
            for number in range(-3, 4):
                found = curve_of(plain).where(number)
                self.same([type(found), found.day == Day(len(plain))], [Clocks, True])
                self.same(list(found.each()), [clock for clock, height in enumerate(plain) if height >= number])
        self.same(Curve(Day(BILLION_DAY), [(0, 2), (5, 1), (9, 2)]).where(2).pieces, ((9, 4),))

    def test_total(self):
        for _, plain, _ in plain_lists(9, 100):
            curve = curve_of(plain)
            for a in (-30, -1, 0, 1, 5, 17):
                for b in range(a, a + 40, 7):
                    self.same(curve.total(a, b), sum(plain[x % len(plain)] for x in range(a, b)))
        curve = Curve(Day(BILLION_DAY), [(0, 3), (1, 0)])
        self.same(curve.total(a=-BILLION_DAY, b=10 ** 59 * BILLION_DAY), 3 * (10 ** 59 + 1))
        self.same(Curve(Day(7), [(0, 2)]).total(-FAR, FAR), 4 * FAR)


class TestSigns(Checks):
    def test_sums_and_products_minute_by_minute(self):
        for dice, one, other in plain_lists(10, 300):
            mine, yours, k = curve_of(one), curve_of(other), dice.choice((0, 1, -1, 3, -7, 10 ** 69))
            told = [mine + yours, mine - yours, mine + k, k + mine, mine - k, -mine, k * mine, mine * k]
            pairs = list(zip(one, other))
            wanted = [
                [a + b for a, b in pairs], [a - b for a, b in pairs], [a + k for a in one], [k + a for a in one],
                [a - k for a in one], [-a for a in one], [k * a for a in one], [a * k for a in one],
            ]
            self.same([curve.steps for curve in told], [steps_of(plain) for plain in wanted])
            self.same([mine == yours, mine != yours], [one == other, one != other])
            self.same([mine.steps, yours.steps], [steps_of(one), steps_of(other)])

    def test_long_days(self):
        one = Curve(Day(BILLION_DAY), [(0, 1), (7, 2)])
        other = Curve(Day(BILLION_DAY), [(0, 1), (7, 0), (BILLION_DAY - 1, 5)])
        self.same((one + other).steps, ((0, 2), (BILLION_DAY - 1, 7)))
        self.same((one - other).steps, ((0, 0), (7, 2), (BILLION_DAY - 1, -3)))

    def test_everything_else(self):
        curve = Curve(Day(24), [(0, 1), (5, 2)])
        for value in any_but(lambda value: integer(value) or isinstance(value, Curve)):
            for call in (lambda: curve + value, lambda: curve - value, lambda: curve * value):
                self.raises(BadAsk("curve"), call)
            self.same([curve == value, curve != value], [False, True])
        for value in any_but(lambda value: integer(value) or type(value).__module__.startswith("onelongturn.")):
            self.raises(BadAsk("curve"), lambda: value + curve)
            self.raises(BadAsk("curve"), lambda: value * curve)
        for value in (True, False):
            self.raises(BadAsk("curve"), lambda: value * curve)

    def test_two_curves(self):
        curve, like, other = (Curve(Day(length), [(0, 1)]) for length in (24, 24, 23))
        self.raises(Unlike("day"), lambda: curve + other)
        self.raises(Unlike("day"), lambda: curve - other)
        self.raises(BadAsk("curve"), lambda: curve * like)
        self.raises(BadAsk("curve"), lambda: curve * other)
        self.same([curve == like, curve == other, curve != other], [True, False, True])

    def test_in_place_the_name_is_bound_anew(self):
        curve = first = Curve(Day(24), [(0, 1)])
        curve += 2
        curve *= 3
        curve -= first
        self.same([curve.steps, first.steps], [((0, 8),), ((0, 1),)])


def count_minutes(length, times):
    """How many of the times (moment, minutes) cover each minute, counted minute by minute."""
    plain = [0] * length
    for begin, minutes in times:
        for step in range(minutes):
            plain[(begin + step) % length] += 1
    return plain


def random_table(dice):
    length = dice.randint(1, 9)
    places = "abc"[:dice.randint(1, 3)]
    table = Table(Day(length), *balanced_trips(dice, length, dice.randint(1, 6), places, 3 * length))
    pauses = Pauses.of({place: dice.randint(0, 3 * length) for place in "abcd" if dice.random() < 0.6})
    return table, pauses


class TestOfTables(Checks):
    def test_against_a_plain_count(self):
        dice = random.Random(11)
        for _ in range(400):
            table, pauses = random_table(dice)
            length = table.day.length
            told = under_way(table)
            self.same(told.steps, steps_of(count_minutes(length, [(trip.leaves, trip.takes) for trip in table])))
            plan = random_plan(dice, table, pauses)
            for place in table.places:
                ends = [trip for trip in table if trip.goal == place]
                runs = [(run.leaves + run.takes, pauses[place]) for run in ends if isinstance(run, Run)]
                self.same(pausing(table, pauses, place).steps, steps_of(count_minutes(length, runs)))
                standing = []
                for trip in ends:
                    ready = trip.ready(pauses[place])
                    leaves = table[plan[trip.name]].leaves
                    wait = next(wait for wait in range(length) if (ready + wait) % length == leaves)
                    standing.append((ready, wait))
                plain = count_minutes(length, standing)
                self.same(plan.curve(place).steps, steps_of(plain))
                least = [height - min(plain) for height in plain]
                self.same(stands(table, pauses, place).steps, steps_of(least))
                self.same(plan.spare(place), min(plain))

    def test_without_pauses(self):
        table = Table(Day(24), Run("p", "a", 6, 2, "b"), Run("q", "b", 9, 2, "a"))
        for place in "ab":
            self.same(stands(table, None, place) == stands(table, Pauses(), place), True)
            self.same(stands(table, None, place) == stands(table, Pauses(c=5), place), True)
            self.same(pausing(table=table, pauses=None, place=place).steps, ((0, 0),))
        self.same(under_way(table=Table(Day(24))).steps, ((0, 0),))

    def test_ready_in_the_minute_of_leaving(self):
        table = Table(Day(24), Stay("w", "a", 6, 24), Run("x", "a", 6, 24, "a"))
        self.same([stands(table, None, "a").steps, stands(table, Pauses(a=24), "a").steps], [((0, 0),), ((0, 0),)])
        self.same(stands(table, Pauses(a=1), "a").steps, ((0, 1), (6, 0), (7, 1)))
        self.same(under_way(table).steps, ((0, 2),))

    def test_long_days(self):
        day = Day(BILLION_DAY)
        run, stay = Run("r", "a", BILLION_DAY - 1, BILLION_DAY, "a"), Stay("w", "a", 5, BILLION_DAY - 1)
        table = Table(day, run, stay)
        pauses = Pauses(a=BILLION_DAY)
        self.same(pausing(table, pauses, "a").steps, ((0, 1),))
        self.same(under_way(table).steps, ((0, 2), (4, 1), (5, 2)))
        self.same(stands(table, pauses, "a").steps, ((0, 0), (4, 1), (5, 0)))
        self.same(stands(table, Pauses(a=3), "a").steps, ((0, 0), (2, 1), (4, 2), (5, 1), (BILLION_DAY - 1, 0)))
        short = Table(Day(1), Run("r", "a", 0, BILLION_DAY, "a"))
        self.same([pausing(short, pauses, "a").steps, under_way(short).steps], [((0, BILLION_DAY),)] * 2)

    def test_many_trips_on_long_days(self):
        dice = random.Random(12)
        table = Table(Day(BILLION_DAY), *balanced_trips(dice, BILLION_DAY, 40, "abcdefgh", BILLION_DAY))
        pauses = Pauses.of({place: dice.randrange(BILLION_DAY) for place in table.places})
        plan = random_plan(dice, table, pauses)
        total = under_way(table)
        for place in table.places:
            self.same((stands(table, pauses, place) + plan.spare(place)) == plan.curve(place), True)
            total = total + pausing(table, pauses, place) + plan.curve(place)
        self.same(total.steps, ((0, plan.vehicles),))

    def test_errors_in_their_order(self):
        table = Table(Day(24), Run("p", "a", 6, 2, "b"), Run("q", "b", 9, 2, "a"))
        for call in (stands, pausing):
            for value in any_but(lambda value: isinstance(value, Table)):
                self.raises(BadAsk("table"), call, value, value, value)
            for value in any_but(lambda value: value is None or isinstance(value, Pauses)):
                self.raises(BadAsk("pauses"), call, table, value, value)
            for value in any_but(lambda value: value == "a") + ["c", "p", table]:
                self.raises(NoPlace(value), call, table, None, value)
        for value in any_but(lambda value: isinstance(value, Table)):
            self.raises(BadAsk("table"), under_way, value)

    def test_a_table_without_trips(self):
        self.raises(NoPlace("a"), stands, Table(Day(24)), None, "a")
        self.same(Plan(Table(Day(24)), None, {}).vehicles, under_way(Table(Day(24))).greatest)

    def test_a_stay_does_not_pause(self):
        table = Table(Day(24), Stay("w", "a", 6, 2))
        self.same(pausing(table, Pauses(a=30), "a").steps, ((0, 0),))
        self.same(stands(table, Pauses(a=30), "a") == stands(table, None, "a"), True)
