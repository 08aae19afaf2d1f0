"""Points [1], [8] to [11] and [17], papers.py and looker.py: papers are right, and others are told from them."""

import random
from itertools import combinations, permutations, product

from onelongturn.curves import stands
from onelongturn.days import Day
from onelongturn.errors import BadAsk, BadNumber, NoPlace, TooMany
from onelongturn.fewest import days_by, fewest
from onelongturn.looker import shows_fewest, shows_stays, shows_turn
from onelongturn.papers import fewest_paper, stays_paper, turn_paper
from onelongturn.plans import Plan
from onelongturn.stays import most_stays
from onelongturn.tables import Pauses, Table
from onelongturn.trips import Run, Stay
from onelongturn.turns import OneTurn, lots, one_turn
from tests.support import (
    ANY_VALUES, BILLION_DAY, Checks, any_but, balanced_trips, every_plan, integer, lived_lots, random_plan, small_case,
)
from tests.test_turns import LOOPS, TABLE, loop_row, tight_loops

DAY = Day(24)
APART = LOOPS + Table(DAY, Run("x", "c", 1, 2, "c"))


def is_pairs(value, firsts):
    return type(value) is tuple and len(value) == len(firsts) and all(
        type(pair) is tuple and len(pair) == 2 and type(pair[0]) is str and pair[0] == first
        for pair, first in zip(value, firsts))


def is_clock(table, value):
    return type(value) is int and 0 <= value < table.day.length


def plan_of(table, pauses, follows):
    """The plan with these next trips, None if there is none."""
    try:
        return Plan(table, pauses, follows)
    except ValueError:
        return None


def days_of(table, pauses, cuts):
    """The days by right cuts that are told as pairs, None if the pairs are not right."""
    if not is_pairs(cuts, table.places) or not all(is_clock(table, clock) for _, clock in cuts):
        return None
    return days_by(table, pauses, dict(cuts))


def believes_fewest(table, pauses, value):
    if type(value) is not tuple or len(value) != 4 or type(value[0]) is not str or value[0] != "fewest":
        return False
    if type(value[1]) is not int or days_of(table, pauses, value[2]) != value[1]:
        return False
    if not is_pairs(value[3], table.names) or not all(type(pair[1]) is str for pair in value[3]):
        return False
    plan = plan_of(table, pauses, dict(value[3]))
    return plan is not None and plan.vehicles == value[1]


def is_words(value):
    return type(value) is tuple and len(value) < 2001 and all(type(word) is str for word in value)


def believes_turn(table, pauses, value):
    if type(value) is not tuple or not value or type(value[0]) is not str:
        return False
    if value[0] == "apart" and len(value) == 2:
        if not is_words(value[1]) or value[1] != tuple(sorted(set(value[1]) & set(table.names))):
            return False
        mine = {place for word in value[1] for place in (table[word].start, table[word].goal)}
        other = {place for word in table.names if word not in value[1] for place in (table[word].start, table[word].goal)}
        return bool(mine) and bool(other) and not mine & other
    if value[0] != "one" or len(value) != 5 or type(value[1]) is not int or not is_words(value[2]):
        return False
    if sorted(value[2]) != list(table.names):
        return False
    plan = plan_of(table, pauses, dict(zip(value[2], value[2][1:] + value[2][:1])))
    days = days_of(table, pauses, value[3])
    if plan is None or not plan.is_one or plan.vehicles != value[1] or days is None or type(value[4]) is not tuple:
        return False
    more = value[1] - days
    if more == 0 or not 0 <= more <= len(table.places):
        return more == 0 and value[4] == ()
    if not all(type(pair) is tuple and len(pair) == 2 and is_words(pair[0]) and is_words(pair[1]) for pair in value[4]):
        return False
    if sorted(pair[0] for pair in value[4]) != sorted(combinations(table.places, more - 1)):
        return False
    for taken, names in value[4]:
        if names != tuple(sorted(set(names) & set(table.names))) or len(names) in (0, len(table)):
            return False
        if any(set(lot) & set(names) and set(lot) - set(names) for lot in lived_lots(table, pauses, taken)):
            return False
    return True


def believes_stays(table, pauses, place, takes, spare, value):
    if type(value) is not tuple or len(value) != 5 or type(value[0]) is not str or value[0] != "stays":
        return False
    number, starts, rounds, row = value[1:]
    for rows in (starts, row):
        if type(rows) is not tuple or len(rows) > 2000 or not all(is_clock(table, clock) for clock in rows):
            return False
    if type(number) is not int or type(rounds) is not int or rounds < 1 or not row or len(starts) != number:
        return False
    if list(starts) != sorted(starts):
        return False
    length, curve = table.day.length, stands(table, pauses, place)
    for clock in range(length):
        if sum((clock - begin) % length < takes for begin in starts) > curve[clock] + spare:
            return False
    moment, total = row[0], 0
    for clock in row[1:] + row[:1]:
        step = (clock - moment) % length or length
        moment, total = moment + step, total + curve[clock] + spare
        if step > takes:
            return False
    return moment - row[0] == rounds * length and total // rounds == number


ODD = [None, True, False, 0, 1, -1, 10 ** 69, "", "a", "fewest", "one", "stays", "apart", (), ("a",), (1, 2), [], {}, ((),)]


def items_at(value, path):
    for at in path:
        value = value[at]
    return value


def put_at(value, path, worth):
    """The tuple with another value at a path."""
    if not path:
        return worth
    return value[:path[0]] + (put_at(value[path[0]], path[1:], worth),) + value[path[0] + 1:]


def paths_of(value, path=()):
    """The paths to all parts of nested tuples."""
    found = [path]
    if isinstance(value, tuple):
        for at, item in enumerate(value):
            found += paths_of(item, path + (at,))
    return found


def otherwise(dice, value):
    """The paper with one thing otherwise, somewhere."""
    path = dice.choice(paths_of(value))
    part = items_at(value, path)
    kind = dice.randrange(9)
    if isinstance(part, tuple) and len(part) > 0 and kind < 7:
        at, other = dice.randrange(len(part)), dice.randrange(len(part))
        exchanged = list(part)
        exchanged[at], exchanged[other] = exchanged[other], exchanged[at]
        worth = (part[:at] + part[at + 1:], part[:at] + part[at:at + 1] + part[at:], tuple(exchanged), part[::-1],
                 part[at:] + part[:at], list(part), part + (dice.choice(ODD),))[kind]
    elif type(part) is int and kind < 7:
        worth = (part + 1, part - 1, part == 1, str(part), -part, (part,), part + 24)[kind]
    elif isinstance(part, str) and kind < 7:
        worth = (part + "x", part[:-1], "a", "b", part.upper(), (part,), [part])[kind]
    else:
        worth = dice.choice(ODD)
    return put_at(value, path, worth)


def deep(many):
    value = ()
    for _ in range(many):
        value = (value,)
    return value


STRANGE = ANY_VALUES + ODD + [
    deep(100), deep(100000), ("fewest", deep(100000), (), ()), ("fewest", 0, deep(3000), deep(3000)),
    ("one", 1, deep(3000), (), ()), ("apart", deep(3000)), ("apart", (deep(3000),)), ("stays", 0, deep(3000), 1, (0,)),
    ("stays", 0, (), deep(3000), (deep(3000),)), ("fewest", 1, tuple(range(2001)), ()), ("apart", ("u",) * 2001),
    ("one", 1, ("u",) * 2001, (), ()), tuple(range(2001)), ("one", 1, ("u", "v"), (("a", 0),), ((),) * 2001),
]


class TestFewest(Checks):
    def test_the_very_form(self):
        dice = random.Random(200)
        for at in range(150):
            table, pauses = small_case(dice, 8, "abc", dice.choice((1, 5, 24)))
            if at < 6:
                length = (24, BILLION_DAY)[at % 2]
                table = Table(Day(length), *balanced_trips(dice, length, (0, 39, 40)[at % 3], "abcdefgh", length))
                pauses = Pauses.of({place: dice.choice((0, 10 ** 12)) for place in "abcdefgh"})
            found, told = fewest(table, pauses), fewest_paper(table, pauses)
            self.same(told[:3], ("fewest", found.number, tuple((place, found.cuts[place]) for place in table.places)))
            self.same([len(told), tuple(pair[0] for pair in told[3])], [4, table.names])
            plan = Plan(table, pauses, dict(told[3]))
            self.same([plan.spare(place) for place in table.places], [0] * len(table.places))
            self.same(fewest_paper(pauses=pauses, table=table), told)
            self.same(shows_fewest(table, pauses, told), True)
        self.same(fewest_paper(Table(DAY), Pauses(a=3)), ("fewest", 0, (), ()))

    def test_any_plan_of_so_many_vehicles_and_any_cuts(self):
        dice = random.Random(201)
        seen = set()
        for _ in range(60):
            table, pauses = small_case(dice, 4, "ab", 6)
            number = fewest(table, pauses).number
            for plan in every_plan(table, pauses):
                for clocks in product(range(0, table.day.length, 2), repeat=len(table.places)):
                    cuts = tuple(zip(table.places, clocks))
                    value = ("fewest", plan.vehicles, cuts, tuple(plan.follows.items()))
                    wanted = plan.vehicles == number == days_by(table, pauses, dict(cuts))
                    self.same(shows_fewest(table, pauses, value), wanted)
                    seen.add(wanted)
        self.assertEqual(seen, {True, False})

    def test_one_thing_otherwise(self):
        dice = random.Random(202)
        seen = {True: 0, False: 0}
        for _ in range(120):
            table, pauses = small_case(dice, 6, "abc", dice.choice((1, 5, 24)))
            told = fewest_paper(table, pauses)
            for _ in range(40):
                value = otherwise(dice, told)
                wanted = value == told and repr(value) == repr(told) or believes_fewest(table, pauses, value)
                self.same(shows_fewest(table, pauses, value), wanted)
                seen[wanted] += 1
        self.assertTrue(seen[True] > 50 and seen[False] > 1000)

    def test_next_trips_of_no_plan_with_as_many_days(self):
        table = Table(DAY, Run("x", "a", 6, 2, "b"), Run("y", "b", 9, 2, "a"), Run("u", "c", 7, 1, "c"))
        told = fewest_paper(table, None)
        self.same([told[1], told[3]], [2, (("u", "u"), ("x", "y"), ("y", "x"))])
        for follows in ((("u", "x"), ("x", "y"), ("y", "u")), (("u", "y"), ("x", "u"), ("y", "x"))):
            self.same(shows_fewest(table, None, told[:3] + (follows,)), False)
        told = fewest_paper(LOOPS, None)
        for follows in ((("u", "u"), ("v", "u")), (("u", "v"), ("v", "v")), (("u", "v"), ("v", "x"))):
            for number in (1, 2, 3):
                self.same(shows_fewest(LOOPS, None, ("fewest", number, told[2], follows)), False)

    def test_strange_values(self):
        for table in (TABLE, LOOPS, Table(DAY)):
            for value in STRANGE:
                self.same(shows_fewest(table, None, value), False)
        self.same(shows_fewest(Table(DAY), None, ("fewest", 0, (), ())), True)
        for value in (("fewest", False, (), ()), ["fewest", 0, (), ()], ("fewest", 0, [], ()), ("fewest", 0, (), {})):
            self.same(shows_fewest(Table(DAY), None, value), False)


class TestTurn(Checks):
    def test_the_very_form(self):
        dice = random.Random(203)
        seen = set()
        for at in range(150):
            table, pauses = small_case(dice, 8, "abc", dice.choice((2, 5, 24)))
            if at % 2:
                table, pauses = tight_loops(dice, dice.randint(2, 7), "abcde", 24), None
            self.check_form(table, pauses)
            seen.add(turn_paper(table, pauses)[0] + str(len(turn_paper(table, pauses)[-1])))
        self.assertTrue({"one0", "one1", "one3", "one4", "one10", "apart1", "apart2"} <= seen)

    def check_form(self, table, pauses):
        found, told = one_turn(table, pauses), turn_paper(table, pauses)
        self.same(turn_paper(pauses=pauses, table=table), told)
        self.same(shows_turn(table, pauses, told), True)
        if not isinstance(found, OneTurn):
            self.same(told, ("apart", lots(table, pauses, table.places)[0]))
            return
        cuts = fewest(table, pauses).cuts
        partings = []
        if found.taken:
            for taken in sorted(combinations(table.places, len(found.taken) - 1)):
                partings.append((taken, lots(table, pauses, taken)[0]))
        self.same(told, ("one", found.number, found.plan.turns[0], tuple((place, cuts[place]) for place in table.places),
                         tuple(partings)))
        self.assertTrue(told[2][0] == min(told[2]))

    def test_many_taken_places_and_the_longest_day(self):
        dice = random.Random(204)
        for length in (24, BILLION_DAY):
            for places in ("abcdefgh", "hgfedcba", "adbechfg"):
                self.check_form(loop_row(length, places), None)
            self.same(len(turn_paper(loop_row(length, "abcdefgh"), None)[4]), 56)
            for places in ("ab", "abcdefgh"):
                table = Table(Day(length), *balanced_trips(dice, length, 40, places, length))
                self.check_form(table, Pauses.of({place: 10 ** 12 for place in places}))
            self.check_form(tight_loops(dice, 20, "abcdefgh", length), None)

    def test_any_plan_any_cuts_and_any_row(self):
        dice = random.Random(205)
        seen = set()
        for _ in range(60):
            table, pauses = small_case(dice, 4, "ab", 5)
            told = turn_paper(table, pauses)
            if told[0] == "apart":
                continue
            for plan in every_plan(table, pauses):
                if plan.is_one:
                    row = plan.turns[0]
                    for at in range(len(row)):
                        value = told[:2] + (row[at:] + row[:at],) + told[3:]
                        self.same(shows_turn(table, pauses, value), plan.vehicles == told[1])
                    for clocks in product(range(table.day.length), repeat=len(table.places)):
                        value = ("one", plan.vehicles, row, tuple(zip(table.places, clocks)), told[4])
                        wanted = believes_turn(table, pauses, value)
                        self.same(shows_turn(table, pauses, value), wanted)
                        self.assertTrue(plan.vehicles == told[1] or not wanted)
                        seen.add(wanted)
        self.assertEqual(seen, {True, False})

    def test_partings_in_any_order_and_with_any_such_names(self):
        table = loop_row(24, "abcd")
        told = turn_paper(table, None)
        self.same([one_turn(table).taken, len(told[4])], [("b", "c"), 4])
        for partings in permutations(told[4]):
            self.same(shows_turn(table, None, told[:4] + (partings,)), True)
        for at, (taken, names) in enumerate(told[4]):
            others = tuple(name for name in table.names if name not in names)
            for worth in (others, names):
                value = told[:4] + (told[4][:at] + ((taken, worth),) + told[4][at + 1:],)
                self.same(shows_turn(table, None, value), True)
            for worth in ((), table.names, names[:1], others[1:], names[::-1], list(names), names + ("zz",), None):
                value = told[:4] + (told[4][:at] + ((taken, worth),) + told[4][at + 1:],)
                self.same(shows_turn(table, None, value), False)
            self.same(shows_turn(table, None, told[:4] + (told[4][:at] + told[4][at + 1:],)), False)
            self.same(shows_turn(table, None, told[:4] + (told[4] + told[4][at:at + 1],)), False)
            self.same(shows_turn(table, None, told[:4] + (told[4][:at] + told[4][at + 1:] + told[4][:1],)), at == 0)

    def test_rows_that_are_no_turn(self):
        for row in (("u", "u"), ("v", "v"), ("u", "v", "u"), ("u",), (), ("u", "v", "u", "v"), ["u", "v"], ("u", "x"), ("v", None)):
            for number in (2, 3):
                for partings in ((), (((), ("u",)),)):
                    self.same(shows_turn(LOOPS, None, ("one", number, row, (("a", 0),), partings)), False)
        table = Table(DAY, Run("x", "a", 6, 2, "b"), Run("y", "b", 9, 2, "a"), Run("u", "a", 7, 1, "a"))
        told = turn_paper(table, None)
        for row in permutations("uxy"):
            self.same(shows_turn(table, None, told[:2] + (row,) + told[3:]), "".join(row) in ("uxy", "xyu", "yux"))

    def test_taken_places_part_nothing(self):
        table = loop_row(24, "abcd")
        told = turn_paper(table, None)
        pairs = {"b": (("oa", "ra"), ("oa", "ob", "ra", "rb")), "c": (("oa", "ra"), ("oa", "ob", "ra", "rb"))}
        for at, (taken, _) in enumerate(told[4]):
            for names in pairs.get(taken[0], ()):
                value = told[:4] + (told[4][:at] + ((taken, names),) + told[4][at + 1:],)
                self.same(shows_turn(table, None, value), (taken[0] == "b") != (names == ("oa", "ra")))

    def test_apart(self):
        for names, wanted in ((("u", "v"), True), (("x",), True), (("u",), False), (("v", "x"), False), ((), False),
                              (("u", "v", "x"), False), (("v", "u"), False), (("u", "u", "v"), False), (["u", "v"], False),
                              (("u", "v", "y"), False), ((None,), False), ("uv", False), (("x", "x"), False)):
            self.same(shows_turn(APART, None, ("apart", names)), wanted)
            self.same(shows_turn(LOOPS, None, ("apart", names)), False)
        self.same([shows_turn(APART, None, ["apart", ("x",)]), shows_turn(APART, None, ("one", ("x",)))], [False, False])
        three = APART + Table(DAY, Stay("w", "d", 1, 2))
        for names in (("w",), ("u", "v", "w"), ("w", "x"), ("x",), ("u", "v", "x")):
            self.same(shows_turn(three, Pauses(a=1), ("apart", names)), True)

    def test_one_thing_otherwise(self):
        dice = random.Random(206)
        seen = {True: 0, False: 0}
        for at in range(160):
            table, pauses = small_case(dice, 6, "abc", dice.choice((2, 5, 24)))
            if at % 2:
                table, pauses = tight_loops(dice, dice.randint(2, 5), "abcd", 24), None
            told = turn_paper(table, pauses)
            for _ in range(30):
                value = otherwise(dice, told)
                wanted = repr(value) == repr(told) or believes_turn(table, pauses, value)
                self.same(shows_turn(table, pauses, value), wanted)
                seen[wanted] += 1
        self.assertTrue(seen[True] > 50 and seen[False] > 1000)

    def test_strange_values(self):
        for table in (TABLE, LOOPS, APART):
            for value in STRANGE:
                self.same(shows_turn(table, None, value), False)
        told = turn_paper(LOOPS, None)
        for at, many in ((2, 2001), (3, 2001), (4, 2001), (4, 3000)):
            self.same(shows_turn(LOOPS, None, put_at(told, (at,), items_at(told, (at,))[:1] * many)), False)

    def test_more_vehicles_than_the_places_can_tell(self):
        table = Table(DAY, Run("u", "a", 6, 24, "a"), Run("v", "a", 18, 24, "a"))
        low = [clock for clock in range(24) if days_by(table, None, {"a": clock}) < 2]
        for clock in range(24):
            value = ("one", 3, ("u", "v"), (("a", clock),), (((), ("u",)),))
            self.same(shows_turn(table, None, value), clock not in low)
            self.same(shows_turn(table, None, value[:4] + ((),)), False)


class TestStays(Checks):
    def any_case(self, dice, longest):
        length = dice.randint(1, longest)
        table = Table(Day(length), *balanced_trips(dice, length, dice.randint(1, 8), "ab", 2 * length))
        pauses = dice.choice((None, Pauses(a=dice.randrange(20))))
        return table, pauses, dice.choice(table.places), dice.randint(1, length), dice.choice((0, 0, 1, 3))

    def test_the_very_form(self):
        dice = random.Random(207)
        for _ in range(100):
            case = self.any_case(dice, 24)
            found = most_stays(*case)
            told = stays_paper(*case)
            self.same(told, ("stays", found.number, found.starts, found.rounds, found.row))
            self.same([shows_stays(*case, told), believes_stays(*case, told)], [True, True])
            self.same(stays_paper(*case[:4]), stays_paper(*case[:4], spare=0))

    def test_one_thing_otherwise(self):
        dice = random.Random(208)
        seen = {True: 0, False: 0}
        for _ in range(150):
            case = self.any_case(dice, 12)
            told = stays_paper(*case)
            for _ in range(40):
                value = otherwise(dice, told)
                wanted = repr(value) == repr(told) or believes_stays(*case, value)
                self.same(shows_stays(*case, value), wanted)
                seen[wanted] += 1
        self.assertTrue(seen[True] > 50 and seen[False] > 1000)

    def test_starts_and_rows_of_another_kind(self):
        dice = random.Random(209)
        seen = {True: 0, False: 0}
        for _ in range(400):
            case = self.any_case(dice, 6)
            told, length = stays_paper(*case), case[0].day.length
            starts = tuple(sorted(dice.randrange(length) for _ in range(told[1] if told[1] < 9 else 9)))
            row = tuple(dice.randrange(length) for _ in range(dice.randint(1, 5)))
            for value in (("stays", told[1], starts, told[3], told[4]),
                          *(("stays", told[1], told[2], rounds, row) for rounds in range(0, 5)),
                          ("stays", told[1], told[2], told[3] * 2, told[4] * 2),
                          ("stays", told[1], told[2], told[3], told[4][1:] + told[4][:1])):
                wanted = believes_stays(*case, value)
                self.same(shows_stays(*case, value), wanted)
                seen[wanted] += 1
        self.assertTrue(min(seen.values()) > 200)

    def test_days_of_two_thousand_minutes(self):
        dice = random.Random(210)
        for at in range(12):
            length = (1999, 2000)[at % 2]
            table = Table(Day(length), *balanced_trips(dice, length, 40, "a", 900))
            takes, spare = dice.choice((100, 1000, 999, length, dice.randint(90, length))), dice.choice((0, 1, 40))
            told = stays_paper(table, None, "a", takes, spare)
            self.same(shows_stays(table, None, "a", takes, spare, told), True)
            for path in ((1,), (3,), (4, 0)):
                value = put_at(told, path, items_at(told, path) + 1)
                self.same(shows_stays(table, None, "a", takes, spare, value),
                          value[4][0] < length and believes_stays(table, None, "a", takes, spare, value))
        table = Table(Day(1999), Stay("w", "a", 0, 1999))
        told = stays_paper(table, None, "a", 1000, 1)
        self.same([told[:4], len(told[4])], [("stays", 1, told[2], 1000), 1999])
        self.same(shows_stays(table, None, "a", 1000, 1, told), True)

    def test_two_thousand_items_and_more(self):
        table = Table(Day(2000), Stay("w", "a", 0, 2000))
        told = stays_paper(table, None, "a", 1, 1)
        self.same([told[1], told[2], sorted(told[4])], [2000, tuple(range(2000)), list(range(2000))])
        self.same(shows_stays(table, None, "a", 1, 1, told), True)
        twice = ("stays", 4000, tuple(sorted(told[2] * 2)), 1, told[4])
        self.same(believes_stays(table, None, "a", 1, 2, twice), False)
        self.same(shows_stays(table, None, "a", 1, 2, twice), False)
        self.raises(TooMany("stays", 2000), stays_paper, table, None, "a", 1, 2)
        small = Table(Day(2), Stay("w", "a", 0, 2))
        for many in (1, 500, 1000, 1001, 2000):
            value = ("stays", 1, (0,), many, (0, 1) * many)
            self.same(shows_stays(small, None, "a", 2, 1, value), False)
            self.same(shows_stays(small, None, "a", 1, 1, ("stays", 2, (0, 1), many, (0, 1) * many)), many <= 1000)
        self.same(shows_stays(small, None, "a", 2, 1, ("stays", 1, (0,), 2000, (1,) * 2000)), True)
        self.same(shows_stays(small, None, "a", 2, 1, ("stays", 1, (0,), 2001, (1,) * 2001)), False)

    def test_strange_values(self):
        for value in STRANGE:
            self.same(shows_stays(TABLE, None, "a", 3, 0, value), False)
            self.same(shows_stays(Table(Day(1), Stay("w", "a", 0, 1)), None, "a", 1, 0, value), False)


class TestErrors(Checks):
    def test_fewest(self):
        for value in any_but(lambda value: isinstance(value, Table)):
            self.raises(BadAsk("table"), fewest_paper, value, value)
            self.raises(BadAsk("table"), shows_fewest, value, value, value)
        for value in any_but(lambda value: value is None or isinstance(value, Pauses)):
            self.raises(BadAsk("pauses"), fewest_paper, Table(DAY), value)
            self.raises(BadAsk("pauses"), shows_fewest, TABLE, value, value)
            self.raises(BadAsk("pauses"), shows_fewest, value=("fewest", 0, (), ()), pauses=value, table=Table(DAY))

    def test_turn(self):
        for value in any_but(lambda value: isinstance(value, Table)):
            self.raises(BadAsk("table"), turn_paper, value, value)
            self.raises(BadAsk("table"), shows_turn, value, value, value)
        for value in ANY_VALUES:
            self.raises(BadAsk("table"), turn_paper, Table(DAY), value)
            self.raises(BadAsk("table"), shows_turn, Table(DAY), value, value)
        for value in any_but(lambda value: value is None or isinstance(value, Pauses)):
            self.raises(BadAsk("pauses"), turn_paper, TABLE, value)
            self.raises(BadAsk("pauses"), shows_turn, TABLE, value, value)

    def test_stays(self):
        long = Table(Day(2001), Stay("w", "a", 0, 1))

        def both(error, *case):
            self.raises(error, stays_paper, *case)
            for value in (None, ("stays", 0, (), 1, (0,))):
                self.raises(error, shows_stays, *case, value)

        for value in any_but(lambda value: isinstance(value, Table)):
            both(BadAsk("table"), value, value, value, value, value)
        for value in any_but(lambda value: value is None or isinstance(value, Pauses)):
            both(BadAsk("pauses"), long, value, value, value, value)
        for value in any_but(lambda value: value == "a") + ["b"]:
            both(NoPlace(value), long, None, value, value, value)
            both(NoPlace(value), Table(DAY), None, value, value, value)
        for value in any_but(lambda value: integer(value) and 1 <= value <= 2001) + [0, 2002]:
            both(BadNumber(value), long, None, "a", value, value)
        for value in any_but(lambda value: integer(value) and 0 <= value <= 40) + [-1, 41]:
            both(BadNumber(value), long, None, "a", 1, value)
        both(TooMany("minutes", 2000), long, None, "a", 1, 40)
        self.raises(BadNumber(41), stays_paper, spare=41, takes=2001, place="a", pauses=None, table=long)
        self.raises(BadNumber(0), shows_stays, value=3, spare=41, takes=0, place="a", pauses=None, table=long)

    def test_many_stays_are_no_error_of_the_looker(self):
        table = Table(Day(2000), Stay("w", "a", 0, 2000))
        for spare in (2, 40):
            for value in (None, (), ("stays", 4000, (), 1, (0,)), ("stays", 2000, tuple(range(2000)), 1, tuple(range(2000)))):
                self.same(shows_stays(table, None, "a", 1, spare, value), False)
