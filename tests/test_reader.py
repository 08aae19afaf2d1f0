"""reader.py: texts that are right are read as what they tell, and spoilt ones are told by line and word."""

import random

from onelongturn.days import Day
from onelongturn.errors import BadPlan, BadText, TooMany, Unbalanced
from onelongturn.plans import Plan
from onelongturn.reader import read_pauses, read_plan, read_table
from onelongturn.tables import Pauses, Table
from onelongturn.trips import Run, Stay
from tests.support import BILLION_DAY, Checks, any_but, balanced_trips, random_plan

NO_NAMES = ["", "A", "a1", "abcdefghi", "1", "-", "a\t", "\u00e4"]
NO_NUMBERS = ["", "x", "-1", "+1", "01", "00", "1000000000001", "10000000000000", "9" * 2000, "\u0661", "1_0", "-0", "1.0"]
TABLE_TEXT = "day 24\nrun p a 6 2 b\nrun q b 9 2 a\nrun r a 12 2 b\nrun s b 15 2 a\nstay w c 0 1"
PLAN_TEXT = TABLE_TEXT + "\npauses a 2 c 3\np q\nq r\nr s\ns p\nw w"
TABLE = Table(Day(24), Run("p", "a", 6, 2, "b"), Run("q", "b", 9, 2, "a"), Run("r", "a", 12, 2, "b"),
              Run("s", "b", 15, 2, "a"), Stay("w", "c", 0, 1))


def table_text(table):
    return "\n".join([f"day {table.day}", *[str(trip) for trip in table]])


def pauses_text(pauses):
    return " ".join(["pauses", *[f"{place} {pauses[place]}" for place in pauses]])


def plan_text(plan):
    lines = [f"{word} {plan[word]}" for word in plan.table.names]
    return "\n".join([table_text(plan.table), pauses_text(plan.pauses), *lines])


class TestRightTexts(Checks):
    def test_the_texts_of_the_examples(self):
        plan = read_plan(PLAN_TEXT)
        self.same([read_table(TABLE_TEXT) == TABLE, plan.table == TABLE, plan.pauses == Pauses(a=2, c=3)], [True] * 3)
        self.same(plan.follows, {"p": "q", "q": "r", "r": "s", "s": "p", "w": "w"})
        self.same(plan_text(plan), PLAN_TEXT)

    def test_what_was_written(self):
        dice = random.Random(30)
        for at in range(60):
            length = dice.choice((1, 2, 24, BILLION_DAY))
            many = (0, 1, 39, 40)[at] if at < 4 else dice.randint(0, 40)
            table = Table(Day(length), *balanced_trips(dice, length, many, "abcdefgh", BILLION_DAY))
            pauses = Pauses.of({place: dice.choice((0, 1, BILLION_DAY)) for place in "abxyz"})
            plan = random_plan(dice, table, pauses)
            self.same(read_table(text=table_text(table)) == table, True)
            self.same(read_pauses(text=pauses_text(pauses)) == pauses, True)
            self.same(read_plan(text=plan_text(plan)) == plan, True)

    def test_the_least_texts(self):
        self.same(read_table("day 1") == Table(Day(1)), True)
        self.same(read_pauses("pauses") == Pauses(), True)
        self.same(read_plan("day 1\npauses") == Plan(Table(Day(1)), None, {}), True)

    def test_odd_names(self):
        for text in ("day 24\nrun pauses a 0 1 a\nstay run stay 0 1", "day 5\nrun day run 4 1 run"):
            self.same(table_text(read_table(text)), text)
        text = "day 24\nrun pauses a 0 1 a\npauses\npauses pauses"
        self.same(plan_text(read_plan(text)), text)


class TestSpoiltTexts(Checks):
    def spoil(self, read, text, line, word, wrong):
        """The error is told by line and word, whatever stands behind."""
        rows = [row.split(" ") for row in text.split("\n")]
        for worth in wrong:
            spoilt = [list(row) for row in rows]
            spoilt[line][word] = worth
            told = "\n".join(" ".join(row) for row in spoilt)
            self.raises(BadText(line, word), read, told)
            short = "\n".join(" ".join(row) for row in spoilt[:line] + [spoilt[line][:word + 1]])
            self.raises(BadText(line, word), read, short)
            self.raises(BadText(line, word), read, short + " ?\n?\n")

    def spoil_table(self, read, text):
        self.spoil(read, text, 0, 0, ["", "Day", "days", "run", "pauses", "24"])
        self.spoil(read, text, 0, 1, NO_NUMBERS + ["0"])
        for line in range(1, 6):
            words = text.split("\n")[line].split(" ")
            stay = words[0] == "stay"
            self.spoil(read, text, line, 0, ["", "Run", "runs", "day", "p", "stays"])
            self.spoil(read, text, line, 1, NO_NAMES + (["a", "o", "p"] if line > 1 else []))
            self.spoil(read, text, line, 2, NO_NAMES)
            self.spoil(read, text, line, 3, NO_NUMBERS + ["24", "25", "1000000000000"])
            self.spoil(read, text, line, 4, NO_NUMBERS + ["0"])
            if not stay:
                self.spoil(read, text, line, 5, NO_NAMES)

    def test_tables(self):
        self.spoil_table(read_table, TABLE_TEXT)
        self.spoil(read_table, TABLE_TEXT, 3, 0, ["pauses"])

    def test_pauses(self):
        text = "pauses a 2 c 3"
        for word, wrong in ((0, ["", "Pauses", "pause", "a", "-"]), (1, NO_NAMES), (2, NO_NUMBERS + ["0"]),
                            (3, NO_NAMES + ["a"]), (4, NO_NUMBERS + ["0"])):
            rows = text.split(" ")
            for worth in wrong:
                self.raises(BadText(0, word), read_pauses, " ".join(rows[:word] + [worth] + rows[word + 1:]))
                self.raises(BadText(0, word), read_pauses, " ".join(rows[:word] + [worth, "?"]))

    def test_plans(self):
        self.spoil_table(read_plan, PLAN_TEXT)
        self.spoil(read_plan, PLAN_TEXT, 6, 1, NO_NAMES)
        self.spoil(read_plan, PLAN_TEXT, 6, 2, NO_NUMBERS + ["0"])
        self.spoil(read_plan, PLAN_TEXT, 6, 3, NO_NAMES + ["a"])
        self.spoil(read_plan, PLAN_TEXT, 6, 4, NO_NUMBERS + ["0"])
        for line in range(7, 12):
            self.spoil(read_plan, PLAN_TEXT, line, 0, NO_NAMES + ["a", "t", "pauses"])
            self.spoil(read_plan, PLAN_TEXT, line, 1, NO_NAMES + ["a", "t"])
        self.spoil(read_plan, PLAN_TEXT, 8, 0, ["p", "r"])

    def test_words_missing_and_too_many(self):
        for read, text in ((read_table, TABLE_TEXT), (read_plan, PLAN_TEXT), (read_pauses, "pauses a 2 c 3")):
            rows = text.split("\n")
            for line, row in enumerate(rows):
                words = row.split(" ")
                if words[0] != "pauses":
                    for many in range(1, len(words)):
                        told = "\n".join(rows[:line] + [" ".join(words[:many])] + rows[line + 1:])
                        self.raises(BadText(line, many), read, told)
                for more in ("", "a", "zz"):
                    told = "\n".join(rows[:line] + [row + " " + more] + rows[line + 1:])
                    wrong = len(words) + 1 if words[0] == "pauses" and more == "zz" else len(words)
                    self.raises(BadText(line, wrong), read, told)
        self.raises(BadText(0, 2), read_pauses, "pauses a")
        self.raises(BadText(0, 4), read_pauses, "pauses a 2 c")
        self.raises(BadText(6, 4), read_plan, PLAN_TEXT.replace("c 3", "c"))

    def test_lines_missing_and_too_many(self):
        self.raises(BadText(6, 0), read_table, TABLE_TEXT + "\n")
        self.raises(BadText(1, 0), read_table, "day 24\n\nrun p a 6 2 b")
        rows = PLAN_TEXT.split("\n")
        for many in range(1, len(rows)):
            self.raises(BadText(many, 0), read_plan, "\n".join(rows[:many]))
            self.raises(BadText(many, 0), read_plan, "\n".join(rows[:many]) + "\n")
        for more in ("", "\n", "x", "w w", "pauses"):
            self.raises(BadText(12, 0), read_plan, PLAN_TEXT + "\n" + more)
        self.raises(BadText(2, 0), read_plan, "day 1\npauses\npauses")
        self.raises(BadText(1, 0), read_plan, "day 1")

    def test_empty_texts(self):
        for read in (read_table, read_pauses, read_plan):
            for text in ("", " ", "\n", " \n", "\n\n"):
                self.raises(BadText(0, 0), read, text)

    def test_newlines_where_one_line_is_asked_for(self):
        for text, wrong in (("pauses\n", 0), ("pauses a 2\n", 2), ("pauses\na 2", 0), ("pauses a\n2", 1),
                            ("pauses a 2\npauses", 2), ("pauses a 2 \n", 3)):
            self.raises(BadText(0, wrong), read_pauses, text)

    def test_no_string(self):
        for read in (read_table, read_pauses, read_plan):
            for value in any_but(lambda value: isinstance(value, str)):
                self.raises(BadText(0, 0), read, value)

    def test_the_forty_first_trip(self):
        trips = [f"stay {a}{b} a 0 1" for a in "abcdefg" for b in "abcdef"]
        self.same(len(read_table("\n".join(["day 24", *trips[:40]]))), 40)
        for line in (trips[40], "stay", "?", "", "stay aa a 0 1"):
            self.raises(BadText(41, 0), read_table, "\n".join(["day 24", *trips[:40], line]))
            self.raises(BadText(41, 0), read_plan, "\n".join(["day 24", *trips[:40], line]))
        for text in ("\n".join(["day 24", *trips[:41], "pauses"]), "\n".join(["day 24", *trips])):
            self.raises(BadText(41, 0), read_plan, text)


class TestErrorsBehindTheText(Checks):
    def test_of_tables(self):
        self.raises(Unbalanced("a"), read_table, "day 24\nrun p a 6 2 b")
        self.raises(Unbalanced("b"), read_table, "day 24\nrun p a 6 2 b\nrun q b 6 2 a\nrun r b 6 2 c")
        many = "\n".join(["day 24", *[f"stay {place} {place} 0 1" for place in "abcdefghi"]])
        self.raises(TooMany("places", 8), read_table, many)
        self.raises(TooMany("places", 8), read_table, many + "\nrun j a 6 2 b")

    def test_of_plans(self):
        self.raises(BadPlan(None), read_plan, PLAN_TEXT.replace("q r", "q p"))
        self.raises(BadPlan("p"), read_plan, PLAN_TEXT.replace("p q", "p r").replace("q r", "q q"))
        self.raises(BadPlan("s"), read_plan, PLAN_TEXT.replace("s p", "s w").replace("w w", "w p"))

    def test_parts_ahead_of_the_whole(self):
        table = "day 24\nrun p a 6 2 b"
        self.raises(Unbalanced("a"), read_plan, table + "\npauses\np p")
        self.raises(BadText(3, 1), read_plan, table + "\npauses\np q")
        self.raises(BadText(2, 2), read_plan, table + "\npauses x 0\np p")
        self.raises(BadText(3, 0), read_plan, table + "\npauses")
        self.raises(BadText(2, 0), read_plan, table)
