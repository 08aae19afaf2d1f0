"""texts.py and reader.py: what is written word for word, read back equal, and texts with anything otherwise."""

import random
import re

from onelongturn.clocks import Clocks
from onelongturn.days import Day
from onelongturn.errors import BadAsk, BadText, TurnError
from onelongturn.plans import Plan
from onelongturn.reader import read_pauses, read_plan, read_table
from onelongturn.tables import Pauses, Table
from onelongturn.texts import write_pauses, write_plan, write_table
from onelongturn.trips import Run, Stay, Trip
from tests.support import ANY_VALUES, BILLION_DAY, Checks, any_but, balanced_trips, random_plan

DAY = Day(24)
ODD_WORDS = [
    "", "a", "b", "p", "zz", "day", "run", "stay", "pauses", "-", "0", "1", "6", "24", "23", "01", "+1", "-1", "1.0", "1_0", "a\t",
    "1000000000000", "1000000000001", "9999999999999", "10000000000000", "9" * 5000, "abcdefgh", "abcdefghi", "A", "\u00e4", "\u0663",
]


def any_table(dice, many=None):
    length = dice.choice((1, 2, 24, BILLION_DAY))
    return Table(Day(length), *balanced_trips(dice, length, dice.randint(0, 6) if many is None else many, "abcdefgh", BILLION_DAY))


def any_pauses(dice):
    return Pauses.of({place: dice.choice((0, 1, 7, BILLION_DAY)) for place in ("a", "b", "day", "run", "stay", "pauses")})


class TestWritten(Checks):
    def test_word_for_word(self):
        table = Table(DAY, Stay("w", "b", 0, 30), Run("q", "b", 9, 10 ** 12, "a"), Run("p", "a", 23, 1, "b"))
        self.same(write_table(table), "day 24\nrun p a 23 1 b\nrun q b 9 1000000000000 a\nstay w b 0 30")
        self.same(write_table(table=Table(Day(10 ** 12))), "day 1000000000000")
        self.same([write_pauses(Pauses(b=0)), write_pauses(None), write_pauses(pauses=Pauses(zz=10 ** 12, a=1))],
                  ["pauses", "pauses", "pauses a 1 zz 1000000000000"])
        plan = Plan(table, Pauses(zz=3, b=2), {"p": "w", "w": "q", "q": "p"})
        self.same(write_plan(plan), write_table(table) + "\npauses b 2 zz 3\np w\nq p\nw q")
        self.same(write_plan(plan=Plan(Table(Day(1)), None, {})), "day 1\npauses")

    def test_names_that_are_words_of_texts(self):
        table = Table(DAY, Run("day", "pauses", 1, 2, "run"), Run("pauses", "run", 5, 2, "pauses"), Stay("run", "stay", 0, 1))
        plan = Plan(table, Pauses.of({"pauses": 2, "day": 1}), {"day": "pauses", "pauses": "day", "run": "run"})
        text = ("day 24\nrun day pauses 1 2 run\nrun pauses run 5 2 pauses\nstay run stay 0 1\npauses day 1 pauses 2\n"
                "day pauses\npauses day\nrun run")
        self.same([write_plan(plan), read_plan(text) == plan], [text, True])

    def test_read_back_and_equal_alone(self):
        dice = random.Random(220)
        tables = [any_table(dice, many) for many in (0, 0, 39, 40)] + [any_table(dice) for _ in range(40)]
        tables += [Table(table.day, *list(table)) for table in tables[:8]] + [table.moved(1) for table in tables[:8]]
        told = [any_pauses(dice) for _ in range(30)] + [Pauses(), Pauses(a=1), Pauses(a=1, z=0), Pauses(b=1)]
        plans = [random_plan(dice, table, dice.choice(told)) for table in tables]
        plans += [Plan(plan.table, plan.pauses, plan.follows) for plan in plans[:9]]
        plans += [Plan(plan.table, plan.pauses.put("q", 5), plan.follows) for plan in plans[:9]]
        for write, read, things in ((write_table, read_table, tables), (write_pauses, read_pauses, told),
                                    (write_plan, read_plan, plans)):
            texts = [write(thing) for thing in things]
            for thing, text in zip(things, texts):
                self.same([type(text), read(text) == thing, write(read(text))], [str, True, text])
            for one, text in zip(things, texts):
                for other, another in zip(things, texts):
                    self.same(one == other, text == another)

    def test_other_values(self):
        for value in any_but(lambda value: isinstance(value, Table)):
            self.raises(BadAsk("table"), write_table, value)
            self.raises(BadAsk("table"), write_table, table=value)
        for value in any_but(lambda value: value is None or isinstance(value, Pauses)):
            self.raises(BadAsk("pauses"), write_pauses, value)
        for value in any_but(lambda value: isinstance(value, Plan)):
            self.raises(BadAsk("plan"), write_plan, value)


def is_name(word):
    return re.fullmatch("[a-z]{1,8}", word) is not None


def is_number(word, least, below=10 ** 12 + 1):
    return re.fullmatch("0|[1-9][0-9]{0,12}", word) is not None and least <= int(word) < below


def first_wrong(words, tests):
    """The index of the first word that does not stand its test, or of the one that is missing or too many; or None."""
    for at, word in enumerate(words):
        if at == len(tests) or not tests[at](word):
            return at
    return None if len(words) == len(tests) else len(words)


def trip_tests(words, ahead, length):
    tests = [lambda word: word == words[0] in ("run", "stay"), lambda word: is_name(word) and word > ahead, is_name,
             lambda word: is_number(word, 0, length), lambda word: is_number(word, 1)]
    return tests + [is_name] * (words[0] == "run")


def pause_tests(words, begin):
    tests = [lambda word: word == "pauses"][:begin]
    for at in range(begin, max(len(words), begin) + (len(words) - begin) % 2, 2):
        ahead = words[at - 2] if at > begin else ""
        tests += [lambda word, ahead=ahead: is_name(word) and word > ahead, lambda word: is_number(word, 1)]
    return tests


def told_wrong(text, kind):
    """The line and the word of the BadText of a text by the words of the document, None for a right one."""
    if kind != "plan" and kind != "table":
        words = text.split(" ")
        begin = 1 if kind == "pauses" else 0
        wrong = first_wrong(words, pause_tests(words, begin))
        return None if wrong is None else (0, wrong)
    rows = [line.split(" ") for line in text.split("\n")]
    named, length, ended = [], 10 ** 12 + 1, False
    for line, words in enumerate(rows):
        if line == 0:
            wrong = first_wrong(words, [lambda word: word == "day", lambda word: is_number(word, 1)])
            length = int(words[1]) if wrong is None else length
        elif not ended and kind == "plan" and words[0] == "pauses":
            ended, begin = True, line + 1
            wrong = first_wrong(words, pause_tests(words, 1))
        elif not ended:
            wrong = 0 if line > 40 else first_wrong(words, trip_tests(words, named[-1] if named else "", length))
            named += [words[1]] if wrong is None else []
        else:
            at = line - begin
            wrong = first_wrong(words, [lambda word: at < len(named) and word == named[at], lambda word: word in named])
        if wrong is not None:
            return (line, wrong)
    if kind == "plan" and (not ended or len(rows) < begin + len(named)):
        return (len(rows), 0)
    return None


class TestAnythingOtherwise(Checks):
    def otherwise(self, dice, text):
        """The text with a word or a line left out, put in, told twice, exchanged or replaced."""
        rows = [line.split(" ") for line in text.split("\n")]
        line = dice.randrange(len(rows))
        words = rows[line]
        at, kind = dice.randrange(len(words)), dice.randrange(9)
        if kind == 0:
            del words[at]
            rows[line] = words or [""]
        elif kind == 1:
            words.insert(dice.randint(0, len(words)), dice.choice(ODD_WORDS))
        elif kind == 2:
            words.insert(at, words[at])
        elif kind == 3:
            other = dice.randrange(len(words))
            words[at], words[other] = words[other], words[at]
        elif kind in (4, 5):
            words[at] = dice.choice(ODD_WORDS)
        elif kind == 6:
            del rows[line]
            rows = rows or [[""]]
        elif kind == 7:
            rows.insert(dice.randint(0, len(rows)), dice.choice((words, [""], ["pauses"], ["x", "y"])))
        else:
            other = dice.randrange(len(rows))
            rows[line], rows[other] = rows[other], rows[line]
        return "\n".join(" ".join(row) for row in rows)

    def check_text(self, read, text, kind):
        """The BadText is the told one; returns whether there was one."""
        wrong = told_wrong(text, kind)
        if wrong is not None:
            self.raises(BadText(*wrong), read, text)
            return True
        try:
            read(text)
        except BadText as error:
            self.fail((text, error.line, error.word))
        except TurnError:
            pass
        return False

    def test_tables_and_plans(self):
        dice = random.Random(221)
        wrong, right = 0, 0
        for at in range(150):
            table = any_table(dice, (None, None, 39, 40)[at % 4])
            plan = random_plan(dice, table, any_pauses(dice))
            for read, text, kind in ((read_table, write_table(table), "table"), (read_plan, write_plan(plan), "plan")):
                for _ in range(25):
                    told = self.otherwise(dice, text)
                    if dice.random() < 0.3:
                        told = self.otherwise(dice, told)
                    spoilt = self.check_text(read, told, kind)
                    wrong, right = wrong + spoilt, right + (not spoilt)
        self.assertTrue(wrong > 3000 and right > 200)

    def test_pauses(self):
        dice = random.Random(222)
        wrong, right = 0, 0
        for _ in range(100):
            pauses = any_pauses(dice)
            for read, text, kind in ((read_pauses, write_pauses(pauses), "pauses"), (Pauses.read, str(pauses), "line")):
                for _ in range(20):
                    told = self.otherwise(dice, text)
                    if kind == "line" and (told == "-" or told.startswith("- ")):
                        continue
                    spoilt = self.check_text(read, told, kind)
                    wrong, right = wrong + spoilt, right + (not spoilt)
        self.assertTrue(wrong > 1000 and right > 100)

    def test_trips(self):
        dice = random.Random(223)
        wrong = 0
        for _ in range(1500):
            trip = dice.choice((Run("p", "a", 6, 2, "b"), Stay("abcdefgh", "run", 10 ** 12, 10 ** 12), Run("day", "a", 0, 1, "a")))
            text = self.otherwise(dice, str(trip))
            words = text.split(" ")
            at = first_wrong(words, trip_tests(words, "", 10 ** 12 + 1))
            if at is None:
                self.same(str(Trip.read(text)), text)
            else:
                self.raises(BadText(0, at), Trip.read, text)
                wrong += 1
        self.assertTrue(500 < wrong < 1450)

    def test_clocks(self):
        dice = random.Random(224)
        for _ in range(1500):
            clocks = Clocks.of(DAY, [(dice.randrange(24), dice.randrange(24)) for _ in range(dice.randrange(4))])
            self.same(str(Clocks.read(DAY, str(clocks))), str(clocks))
            text = self.otherwise(dice, str(clocks))
            try:
                self.same(str(Clocks.read(DAY, text)), text)
            except BadText as error:
                self.assertTrue(error.line == 0 and 0 <= error.word < len(text.split(" ")))

    def test_no_string(self):
        for value in ANY_VALUES:
            if not isinstance(value, str):
                for read in (read_table, read_pauses, read_plan, Trip.read, Pauses.read):
                    self.raises(BadText(0, 0), read, value)
                self.raises(BadText(0, 0), Clocks.read, DAY, value)
            else:
                for read, kind in ((read_table, "table"), (read_plan, "plan"), (read_pauses, "pauses")):
                    self.assertTrue(self.check_text(read, value, kind))
