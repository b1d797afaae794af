"""Rules, their days, and rows of days done: [0.2] (b), [0.3], [0.5], [2.1], [2.2]."""

import calendar
import copy
import datetime
import functools
import random
import unittest

from any_things import odd_things
from dodays.again import days_of, is_of, is_rule, longest_row, next_of, row_of_done
from dodays.dates import day_of

LAST_DAY = 36524
FIRST = datetime.date(2000, 1, 1)
MONTH_LENGTHS = (31, 29, 31, 30, 31, 30, 31, 31, 30, 31, 30, 31)

RULES = (("each", 1), ("each", 2), ("each", 7), ("each", 365), ("each", 999),
         ("week", (0,)), ("week", (6,)), ("week", (0, 2, 4)), ("week", (5, 6)),
         ("week", (0, 1, 2, 3, 4, 5, 6)),
         ("month", 1), ("month", 15), ("month", 28), ("month", 29), ("month", 30), ("month", 31),
         ("year", 1, 1), ("year", 2, 28), ("year", 2, 29), ("year", 4, 30), ("year", 12, 31))
STARTS = (0, 1, 30, 31, 58, 59, 60, 365, 366, 424, 425, 1520, 10000, 36159, 36523, 36524)


@functools.cache
def told_plainly(rule, start):
    """All the days of a rule, told from Python's own calendar and one after the other."""
    word = rule[0]
    if word == "each":
        return [start + many * rule[1] for many in range((LAST_DAY - start) // rule[1] + 1)]
    if word == "week":
        return [day for day in range(start, LAST_DAY + 1)
                if (FIRST + datetime.timedelta(days=day)).weekday() in rule[1]]
    months = range(1, 13) if word == "month" else (rule[1],)
    days = []
    for year in range(2000, 2100):
        for month in months:
            at = min(rule[-1], calendar.monthrange(year, month)[1])
            days.append((datetime.date(year, month, at) - FIRST).days)
    return [day for day in days if day >= start]


class IsRuleTest(unittest.TestCase):
    def assert_told(self, thing, truth):
        before = copy.deepcopy(thing)
        with self.subTest(thing=thing):
            self.assertIs(is_rule(thing), truth)
            self.assertIs(is_rule(thing), truth)
            self.assertEqual(thing, before)

    def assert_within(self, word, least, greatest):
        for number in range(least - 3, greatest + 4):
            self.assert_told((word, number), least <= number <= greatest)
        for number in (-10 ** 30, 10 ** 30, -1):
            self.assert_told((word, number), False)

    def test_each(self):
        self.assert_within("each", 1, 999)

    def test_month(self):
        self.assert_within("month", 1, 31)

    def test_week(self):
        for days in ((0,), (6,), (0, 6), (0, 1), (1, 3, 5), (0, 1, 2, 3, 4, 5, 6)):
            self.assert_told(("week", days), True)

    def test_week_of_no_days_of_the_week(self):
        for days in ((), (7,), (-1,), (0, 7), (-1, 0), (0, 1, 2, 3, 4, 5, 6, 7)):
            self.assert_told(("week", days), False)

    def test_week_not_rising(self):
        for days in ((1, 0), (0, 0), (3, 3), (0, 2, 1), (0, 1, 1), (6, 5, 4), (0, 1, 2, 2, 3)):
            self.assert_told(("week", days), False)

    def test_week_of_other_kinds(self):
        for days in (0, 3, None, True, "", "0", "012", [], [0], [0, 1], (None,), ("0",), (True,),
                     (False,), (False, True), (0, True), (0, True, 2), ((0,),), ([0],), ((),),
                     (0, (1,)), (0, None), (0, "1")):
            self.assert_told(("week", days), False)

    def test_year_about_every_month_s_bounds(self):
        for month, last in enumerate(MONTH_LENGTHS, start=1):
            for at in range(-2, 35):
                self.assert_told(("year", month, at), 1 <= at <= last)

    def test_year_about_the_months_bounds(self):
        for month in (-1, 0, 13, 14, 10 ** 30):
            for at in (1, 28, 29, 30, 31):
                self.assert_told(("year", month, at), False)

    def test_29_to_31_as_the_day_of_a_year_s_rule(self):
        for at, months in ((29, range(1, 13)),
                           (30, (1, 3, 4, 5, 6, 7, 8, 9, 10, 11, 12)),
                           (31, (1, 3, 5, 7, 8, 10, 12)),
                           (32, ())):
            for month in range(1, 13):
                self.assert_told(("year", month, at), month in months)

    def test_truths_are_no_whole_numbers(self):
        for truth in (True, False):
            for thing in (("each", truth), ("month", truth), ("week", truth), ("week", (truth,)),
                          ("year", truth, 1), ("year", 1, truth), ("year", truth, truth)):
                self.assert_told(thing, False)

    def test_lists_are_no_tuples(self):
        for thing in (["each", 1], ["week", (0,)], ["week", [0]], ("week", [0]), ["month", 1],
                      ["year", 1, 1], ("each", [1]), (["each"], 1), ("year", [1, 1]),
                      [("each", 1)]):
            self.assert_told(thing, False)

    def test_parts_left_out_or_said_twice(self):
        for thing in ((), ("each",), ("week",), ("month",), ("year",), ("year", 1), (1,), (1, 1),
                      ("each", 1, 1), ("month", 1, 1), ("week", (0,), (1,)), ("week", 0, 1),
                      ("year", 1, 1, 1), ("each", "each", 1), ("year", "year", 1, 1),
                      ("year", (1, 1)), ("each", (1,)), ("month", (1,)), ((0,),), (1, "each"),
                      ("each", 1, None), ("year", 1, 1, None), ("each", None), ("month", None),
                      ("year", None, 1), ("year", 1, None), ("each", "1"), ("month", "1"),
                      ("year", "1", 1), ("year", 1, "1"), (("each", 1),)):
            self.assert_told(thing, False)

    def test_other_words(self):
        for word in ("", "Each", "EACH", "each ", " each", "day", "weeks", "months", "years", "eac",
                     None, 0, True, ("each",), [], ()):
            self.assert_told((word, 1), False)
            self.assert_told((word, (0,)), False)
            self.assert_told((word, 1, 1), False)

    def test_words_with_the_numbers_of_others(self):
        for thing in (("each", (0,)), ("month", (0,)), ("week", 1), ("year", 1),
                      ("each", 1, 1), ("month", 1, 1)):
            self.assert_told(thing, False)

    def test_any_things(self):
        for thing in odd_things():
            self.assert_told(thing, False)

    def test_the_rules_of_these_tests(self):
        for rule in RULES:
            self.assert_told(rule, True)


class IsOfTest(unittest.TestCase):
    def assert_days(self, rule, start, days, others):
        for day in days:
            with self.subTest(rule=rule, start=start, day=day):
                self.assertIs(is_of(rule, start, day), True)
        for day in others:
            with self.subTest(rule=rule, start=start, day=day):
                self.assertIs(is_of(rule, start, day), False)

    def test_each(self):
        self.assert_days(("each", 3), 10, (10, 13, 16, 19, 10 + 3 * 12000), (7, 4, 1, 9, 11, 12, 14))
        self.assert_days(("each", 1), 10, (10, 11, 12, LAST_DAY), (0, 9))
        self.assert_days(("each", 999), 0, (0, 999, 1998), (1, 998, 1000, 1997))

    def test_week(self):
        # Day 0 was a Saturday, so day 2 is a Monday and day 8 a Sunday.
        self.assert_days(("week", (0, 6)), 0, (1, 2, 8, 9), (0, 3, 4, 5, 6, 7))
        self.assert_days(("week", (0, 6)), 3, (8, 9), (1, 2, 3))
        self.assert_days(("week", (5,)), 0, (0, 7, 14), (1, 6, 8))

    def test_month(self):
        rule = ("month", 31)
        self.assert_days(rule, 0, (30, 59, day_of((2001, 2, 28)), day_of((2001, 4, 30)), LAST_DAY),
                         (0, 29, 31, 58, 60, day_of((2001, 2, 27)), day_of((2001, 5, 30))))
        self.assert_days(("month", 29), 0, (day_of((2000, 2, 29)), day_of((2001, 2, 28))),
                         (day_of((2000, 2, 28)), day_of((2001, 2, 27)), day_of((2001, 3, 1))))
        self.assert_days(("month", 1), 0, (0, 31, 60), (30, 1, 59))

    def test_year(self):
        rule = ("year", 2, 29)
        self.assert_days(rule, 0, (59, day_of((2001, 2, 28)), day_of((2004, 2, 29))),
                         (58, 60, 0, day_of((2001, 3, 1)), day_of((2004, 2, 28))))
        self.assert_days(("year", 2, 28), 0, (58, day_of((2001, 2, 28))), (59, day_of((2004, 2, 29))))
        self.assert_days(("year", 12, 31), 0, (365, LAST_DAY), (30, 0, 366))

    def test_no_day_is_ahead_of_the_start(self):
        for rule in RULES:
            for day in range(1000):
                self.assertIs(is_of(rule, 1000, day), False)

    def test_just_those_that_the_rule_tells(self):
        for rule in RULES:
            for start in STARTS:
                told = set(told_plainly(rule, start))
                days = range(max(0, start - 40), min(LAST_DAY, start + 1600) + 1)
                for day in (*days, *range(LAST_DAY - 400, LAST_DAY + 1)):
                    self.assertIs(is_of(rule, start, day), day in told, (rule, start, day))


class NextOfTest(unittest.TestCase):
    def test_the_first_day_is_greater_than_after(self):
        self.assertEqual(next_of(("each", 3), 0, -1), 0)
        self.assertEqual(next_of(("each", 3), 0, 0), 3)
        self.assertEqual(next_of(("each", 3), 0, 2), 3)
        self.assertEqual(next_of(("each", 3), 1, -1), 1)
        self.assertEqual(next_of(("week", (0,)), 0, -1), 2)
        self.assertEqual(next_of(("week", (0,)), 2, -1), 2)
        self.assertEqual(next_of(("week", (0,)), 3, -1), 9)
        self.assertEqual(next_of(("week", (0,)), 0, 2), 9)
        self.assertEqual(next_of(("month", 31), 0, 30), 59)
        self.assertEqual(next_of(("month", 31), 0, 59), 90)
        self.assertEqual(next_of(("year", 2, 29), 0, 59), day_of((2001, 2, 28)))

    def test_none_is_ahead_of_the_start(self):
        self.assertEqual(next_of(("each", 5), 100, 3), 100)
        self.assertEqual(next_of(("each", 5), 100, 99), 100)
        self.assertEqual(next_of(("each", 5), 100, 100), 105)
        self.assertEqual(next_of(("month", 1), 1, -1), 31)

    def test_none_up_to_the_last_day(self):
        self.assertEqual(next_of(("each", 1), 0, LAST_DAY - 1), LAST_DAY)
        self.assertIsNone(next_of(("each", 1), 0, LAST_DAY))
        self.assertIsNone(next_of(("each", 1), LAST_DAY, LAST_DAY))
        self.assertEqual(next_of(("each", 999), LAST_DAY, -1), LAST_DAY)
        self.assertIsNone(next_of(("each", 2), LAST_DAY - 1, LAST_DAY - 1))
        self.assertEqual(next_of(("month", 31), 0, LAST_DAY - 1), LAST_DAY)
        self.assertIsNone(next_of(("month", 30), 0, LAST_DAY - 1))
        self.assertIsNone(next_of(("year", 2, 29), LAST_DAY - 100, -1))
        # The last day is a Thursday.
        self.assertEqual(next_of(("week", (3,)), LAST_DAY - 1, -1), LAST_DAY)
        self.assertIsNone(next_of(("week", (4, 5)), LAST_DAY - 4, -1))

    def test_next_ones_follow_one_another(self):
        for rule in RULES:
            for start in STARTS:
                told = []
                day = next_of(rule, start, -1)
                while day is not None and len(told) < 30:
                    told.append(day)
                    day = next_of(rule, start, day)
                self.assertEqual(told, told_plainly(rule, start)[:30], (rule, start))

    def test_after_any_day(self):
        for rule in RULES:
            for start in STARTS:
                days = told_plainly(rule, start)
                for after in (-1, 0, 29, 59, 60, 366, start - 1, start, 20000, 36158, 36500, LAST_DAY):
                    first = next((day for day in days if day > after), None)
                    told = next_of(rule, start, max(-1, after))
                    self.assertEqual(told, first, (rule, start, after))


class DaysOfTest(unittest.TestCase):
    def test_told(self):
        for rule, start, first, last, days in (
                (("each", 3), 1, 0, 10, (1, 4, 7, 10)),
                (("each", 3), 1, 4, 7, (4, 7)),
                (("each", 3), 1, 5, 6, ()),
                (("each", 3), 1, 4, 4, (4,)),
                (("each", 3), 5, 0, 4, ()),
                (("week", (0, 6)), 0, 0, 9, (1, 2, 8, 9)),
                (("week", (0, 6)), 2, 0, 9, (2, 8, 9)),
                (("month", 31), 0, 0, 120, (30, 59, 90, 120)),
                (("month", 31), 31, 0, 120, (59, 90, 120)),
                (("year", 2, 29), 0, 0, 1600, (59, 424, 789, 1154, 1520)),
                (("year", 2, 29), 60, 0, 1600, (424, 789, 1154, 1520))):
            with self.subTest(rule=rule, start=start, first=first, last=last):
                told = days_of(rule, start, first, last)
                self.assertEqual(told, days)
                self.assertIs(type(told), tuple)

    def test_first_behind_last(self):
        for rule in RULES:
            self.assertEqual(days_of(rule, 0, 11, 10), ())
            self.assertEqual(days_of(rule, 0, LAST_DAY, 0), ())

    def test_all_of_them(self):
        for rule in RULES:
            for start in (0, 59, 36159, LAST_DAY):
                self.assertEqual(list(days_of(rule, start, 0, LAST_DAY)), told_plainly(rule, start))

    def test_stretches(self):
        for rule in RULES:
            for start in STARTS:
                days = told_plainly(rule, start)
                for first, last in ((0, 60), (59, 59), (60, 425), (start, start), (start - 9, start + 9),
                                    (36100, LAST_DAY), (LAST_DAY, LAST_DAY)):
                    told = days_of(rule, start, max(0, first), min(LAST_DAY, last))
                    within = tuple(day for day in days if first <= day <= last)
                    self.assertEqual(told, within, (rule, start, first, last))


class RowTest(unittest.TestCase):
    def assert_rows(self, rule, start, days, day, row, longest):
        with self.subTest(rule=rule, start=start, days=days, day=day):
            self.assertEqual(row_of_done(rule, start, days, day), row)
            self.assertEqual(longest_row(rule, start, days, day), longest)

    def test_none_done(self):
        for rule in RULES:
            self.assert_rows(rule, 0, (), 100, 0, 0)

    def test_all_done(self):
        self.assert_rows(("each", 2), 0, (0, 2, 4, 6, 8), 8, 5, 5)
        self.assert_rows(("each", 2), 0, (0, 2, 4, 6, 8), 9, 5, 5)
        self.assert_rows(("month", 31), 0, (30, 59, 90), 100, 3, 3)
        self.assert_rows(("year", 2, 29), 0, (59, 424, 789), 1000, 3, 3)
        self.assert_rows(("week", (0, 6)), 0, (1, 2, 8, 9), 9, 4, 4)

    def test_the_day_itself_not_done_ends_no_row(self):
        self.assert_rows(("each", 2), 0, (0, 2, 4, 6), 8, 4, 4)
        self.assert_rows(("each", 1), 0, (3, 4), 5, 2, 2)
        self.assert_rows(("each", 1), 5, (), 5, 0, 0)

    def test_the_day_itself_done_counts(self):
        self.assert_rows(("each", 1), 0, (3, 4, 5), 5, 3, 3)
        self.assert_rows(("each", 1), 0, (5,), 5, 1, 1)
        self.assert_rows(("each", 1), 5, (5,), 5, 1, 1)

    def test_a_day_ahead_of_it_not_done_ends_the_row(self):
        self.assert_rows(("each", 1), 0, (2, 3), 5, 0, 2)
        self.assert_rows(("each", 1), 0, (2, 3, 5), 5, 1, 2)
        self.assert_rows(("each", 2), 0, (0, 2, 4), 7, 0, 3)
        self.assert_rows(("each", 2), 0, (0, 2, 6), 7, 1, 2)

    def test_the_day_is_none_of_the_rule_s(self):
        self.assert_rows(("each", 3), 0, (0, 3, 6), 7, 3, 3)
        self.assert_rows(("each", 3), 0, (0, 3), 7, 0, 2)
        self.assert_rows(("each", 3), 0, (0, 3, 6, 7), 7, 3, 3)

    def test_days_in_any_order_and_said_twice(self):
        self.assert_rows(("each", 2), 0, (6, 0, 4, 2), 7, 4, 4)
        self.assert_rows(("each", 2), 0, (6, 4, 6, 4, 6, 4), 7, 2, 2)
        self.assert_rows(("each", 2), 0, (2, 2, 0, 0, 6, 6), 7, 1, 2)

    def test_days_that_are_none_of_the_rule_s(self):
        self.assert_rows(("each", 2), 0, (1, 3, 5, 7), 7, 0, 0)
        self.assert_rows(("each", 2), 0, (1, 4, 5, 6, 7), 7, 2, 2)
        self.assert_rows(("each", 2), 4, (0, 2, 4, 6), 7, 2, 2)
        self.assert_rows(("each", 2), 4, (0, 2), 7, 0, 0)

    def test_days_behind_the_day(self):
        self.assert_rows(("each", 1), 0, (3, 4, 5, 6, 7, 8), 5, 3, 3)
        self.assert_rows(("each", 1), 0, (6, 7, 8), 5, 0, 0)
        self.assert_rows(("each", 1), 0, (1, 4, 6, 7, 8), 5, 1, 1)

    def test_no_day_of_the_rule_up_to_the_day(self):
        self.assert_rows(("each", 1), 10, (8, 9, 10, 11), 9, 0, 0)
        self.assert_rows(("month", 31), 0, (0, 1, 30), 29, 0, 0)
        self.assert_rows(("year", 12, 31), 0, (0, 365), 300, 0, 0)

    def test_the_longest_one_is_anywhere(self):
        self.assert_rows(("each", 1), 0, (0, 1, 2, 4, 6, 7), 8, 2, 3)
        self.assert_rows(("each", 1), 0, (0, 2, 3, 4, 5, 7), 8, 1, 4)
        self.assert_rows(("each", 1), 0, (0, 2, 3, 5, 6, 7), 7, 3, 3)
        self.assert_rows(("week", (0, 6)), 0, (1, 2, 8, 16), 16, 1, 3)

    def test_as_counted_plainly(self):
        chance = random.Random(7)
        for rule in RULES:
            for _ in range(40):
                start = chance.choice(STARTS)
                day = min(LAST_DAY, start + chance.randrange(-5, 2500))
                of_rule = [at for at in told_plainly(rule, start) if at <= day + 400]
                days = [at for at in of_rule if chance.random() < chance.choice((0.5, 0.95))]
                days += [chance.randrange(LAST_DAY + 1) for _ in range(5)] + days[:3]
                chance.shuffle(days)
                were_done = set(days)
                marks = "".join("x" if at in were_done else "." for at in of_rule if at <= day)
                longest = max(len(row) for row in marks.split("."))
                if day in of_rule and marks.endswith("."):
                    marks = marks[:-1]
                row = len(marks.split(".")[-1])
                self.assert_rows(rule, start, tuple(days), day, row, longest)

    def test_asked_again_the_same_is_told(self):
        days = (4, 2, 2, 9, 0)
        for _ in range(2):
            self.assert_rows(("each", 2), 0, days, 5, 3, 3)
            self.assertEqual(days, (4, 2, 2, 9, 0))


class BeyondTest(unittest.TestCase):
    """Numbers somewhat beyond their bounds make no error."""

    def test_rules(self):
        for rule in (("each", 0), ("each", -2), ("each", 1000), ("week", ()), ("week", (7,)),
                     ("week", (3, 1)), ("month", 0), ("month", 32), ("year", 0, 1),
                     ("year", 13, 1), ("year", 2, 31)):
            with self.subTest(rule=rule):
                self.assertIn(is_of(rule, 5, 60), (True, False))
                self.assertIsInstance(next_of(rule, 36000, 36100), (int, type(None)))
                self.assertIsInstance(days_of(rule, 5, 0, 100), tuple)
                self.assertIsInstance(row_of_done(rule, 5, (59,), 60), int)
                self.assertIsInstance(longest_row(rule, 5, (59,), 60), int)

    def test_days(self):
        for rule in RULES:
            with self.subTest(rule=rule):
                self.assertIn(is_of(rule, -3, LAST_DAY + 40), (True, False))
                self.assertIsNone(next_of(rule, LAST_DAY + 1, LAST_DAY + 2))
                self.assertIsInstance(days_of(rule, 36000, -1, LAST_DAY + 40), tuple)


if __name__ == "__main__":
    unittest.main()
