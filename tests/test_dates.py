"""Dates: [0.2] (a), [0.3], [0.4], [1.1]."""

import copy
import datetime
import unittest

from any_things import odd_things
from dodays.dates import date_of, day_of, is_date, months_on, read_date, weekday, written_date
from dodays.errors import NoDate

LAST_DAY = 36524
FIRST = datetime.date(2000, 1, 1)


def told_by_python(day):
    date = FIRST + datetime.timedelta(days=day)
    return (date.year, date.month, date.day)


def last_of_month(year, month):
    if month == 12:
        return 31
    return (datetime.date(year, month + 1, 1) - datetime.timedelta(days=1)).day


class IsDateTest(unittest.TestCase):
    def assert_told(self, thing, truth):
        before = copy.deepcopy(thing)
        with self.subTest(thing=thing):
            self.assertIs(is_date(thing), truth)
            self.assertIs(is_date(thing), truth)
            self.assertEqual(thing, before)

    def test_every_date_is_one(self):
        for day in range(LAST_DAY + 1):
            self.assertIs(is_date(told_by_python(day)), True)

    def test_bounds_of_years(self):
        for year, truth in ((1999, False), (2000, True), (2099, True), (2100, False),
                            (0, False), (-2000, False), (99, False), (10 ** 30, False)):
            self.assert_told((year, 1, 1), truth)
            self.assert_told((year, 12, 31), truth)

    def test_bounds_of_months(self):
        for month, truth in ((-1, False), (0, False), (1, True), (12, True), (13, False)):
            self.assert_told((2004, month, 1), truth)
            self.assert_told((2004, month, 28), truth)

    def test_bounds_of_days_of_every_month(self):
        for year in range(2000, 2100):
            for month in range(1, 13):
                last = last_of_month(year, month)
                self.assertIs(is_date((year, month, -1)), False)
                self.assertIs(is_date((year, month, 0)), False)
                self.assertIs(is_date((year, month, 1)), True)
                self.assertIs(is_date((year, month, last)), True)
                self.assertIs(is_date((year, month, last + 1)), False)

    def test_february(self):
        for year, last in ((2000, 29), (2001, 28), (2002, 28), (2003, 28), (2004, 29),
                           (2096, 29), (2097, 28), (2098, 28), (2099, 28)):
            self.assert_told((year, 2, last), True)
            self.assert_told((year, 2, last + 1), False)

    def test_truths_are_no_whole_numbers(self):
        for thing in ((2000, True, 1), (2000, 1, True), (2000, True, True), (True, 1, 1),
                      (2000, False, 1), (2000, 1, False)):
            self.assert_told(thing, False)

    def test_parts_of_other_kinds(self):
        for part in (None, "1", "", (1,), [1], (), []):
            self.assert_told((part, 1, 1), False)
            self.assert_told((2000, part, 1), False)
            self.assert_told((2000, 1, part), False)
        self.assert_told(("2000", 1, 1), False)

    def test_one_part_more_or_fewer(self):
        self.assert_told((2000, 1), False)
        self.assert_told((2000, 1, 1, 1), False)
        self.assert_told((2000, 1, 1, None), False)
        self.assert_told(((2000, 1, 1),), False)

    def test_lists_are_no_dates(self):
        self.assert_told([2000, 1, 1], False)
        self.assert_told([(2000, 1, 1)], False)

    def test_any_things(self):
        for thing in odd_things():
            self.assert_told(thing, False)


class DayTest(unittest.TestCase):
    def test_first_and_last(self):
        self.assertEqual(day_of((2000, 1, 1)), 0)
        self.assertEqual(day_of((2099, 12, 31)), LAST_DAY)
        self.assertEqual(date_of(0), (2000, 1, 1))
        self.assertEqual(date_of(LAST_DAY), (2099, 12, 31))

    def test_ends_of_months_and_years(self):
        for date, day in (((2000, 1, 31), 30), ((2000, 2, 1), 31), ((2000, 2, 28), 58),
                          ((2000, 2, 29), 59), ((2000, 3, 1), 60), ((2000, 12, 31), 365),
                          ((2001, 1, 1), 366), ((2001, 2, 28), 424), ((2001, 3, 1), 425),
                          ((2003, 12, 31), 1460), ((2004, 1, 1), 1461), ((2004, 2, 29), 1520)):
            with self.subTest(date=date):
                self.assertEqual(day_of(date), day)
                self.assertEqual(date_of(day), date)

    def test_each_tells_the_other_on_every_day(self):
        for day in range(LAST_DAY + 1):
            date = date_of(day)
            self.assertEqual(date, told_by_python(day))
            self.assertIs(type(date), tuple)
            self.assertEqual(day_of(date), day)

    def test_weekday_on_every_day(self):
        self.assertEqual(weekday(0), 5)
        self.assertEqual(weekday(1), 6)
        self.assertEqual(weekday(2), 0)
        for day in range(LAST_DAY + 1):
            self.assertEqual(weekday(day), (FIRST + datetime.timedelta(days=day)).weekday())

    def test_somewhat_beyond_is_no_error(self):
        for day in (-400, -1, LAST_DAY + 1, LAST_DAY + 800):
            self.assertEqual(day_of(date_of(day)), day)
            self.assertIn(weekday(day), range(7))
        for date in ((2000, 0, 1), (2000, 13, 1), (2000, 15, 40), (1999, 1, 0), (2100, 2, 30)):
            self.assertIsInstance(day_of(date), int)
            self.assertIsInstance(written_date(date), str)


class MonthsOnTest(unittest.TestCase):
    def assert_no_date(self, date, many):
        with self.subTest(date=date, many=many), self.assertRaises(NoDate):
            months_on(date, many)

    def test_by_nothing(self):
        for day in range(0, LAST_DAY + 1, 7):
            self.assertEqual(months_on(date_of(day), 0), date_of(day))

    def test_forward_and_back(self):
        for date, many, told in (
                ((2010, 5, 17), 1, (2010, 6, 17)),
                ((2010, 5, 17), -1, (2010, 4, 17)),
                ((2010, 5, 17), 7, (2010, 12, 17)),
                ((2010, 5, 17), 8, (2011, 1, 17)),
                ((2010, 5, 17), -4, (2010, 1, 17)),
                ((2010, 5, 17), -5, (2009, 12, 17)),
                ((2010, 12, 31), 1, (2011, 1, 31)),
                ((2010, 1, 1), -1, (2009, 12, 1)),
                ((2010, 1, 1), 12, (2011, 1, 1)),
                ((2010, 12, 31), -12, (2009, 12, 31)),
                ((2010, 5, 17), 1000, (2093, 9, 17)),
                ((2050, 5, 17), -600, (2000, 5, 17))):
            with self.subTest(date=date, many=many):
                self.assertEqual(months_on(date, many), told)

    def test_from_the_last_days_into_a_shorter_month(self):
        for date, many, told in (
                ((2010, 1, 31), 1, (2010, 2, 28)),
                ((2010, 1, 30), 1, (2010, 2, 28)),
                ((2010, 1, 29), 1, (2010, 2, 28)),
                ((2010, 1, 28), 1, (2010, 2, 28)),
                ((2012, 1, 31), 1, (2012, 2, 29)),
                ((2012, 1, 29), 1, (2012, 2, 29)),
                ((2012, 1, 28), 1, (2012, 2, 28)),
                ((2012, 2, 29), 12, (2013, 2, 28)),
                ((2012, 2, 29), -12, (2011, 2, 28)),
                ((2012, 2, 29), 48, (2016, 2, 29)),
                ((2012, 2, 29), 1, (2012, 3, 29)),
                ((2010, 3, 31), -1, (2010, 2, 28)),
                ((2010, 3, 31), 1, (2010, 4, 30)),
                ((2010, 10, 31), 1, (2010, 11, 30)),
                ((2010, 12, 31), -6, (2010, 6, 30)),
                ((2010, 12, 31), 2, (2011, 2, 28))):
            with self.subTest(date=date, many=many):
                self.assertEqual(months_on(date, many), told)

    def test_every_month_from_its_31st(self):
        for many in range(0, 1200):
            year, month = 2000 + many // 12, many % 12 + 1
            told = months_on((2000, 1, 31), many)
            self.assertEqual(told, (year, month, last_of_month(year, month)))
            self.assertIs(type(told), tuple)

    def test_just_within_the_years(self):
        self.assertEqual(months_on((2099, 11, 30), 1), (2099, 12, 30))
        self.assertEqual(months_on((2000, 1, 31), 1199), (2099, 12, 31))
        self.assertEqual(months_on((2000, 2, 29), -1), (2000, 1, 29))
        self.assertEqual(months_on((2099, 12, 31), -1199), (2000, 1, 31))

    def test_just_beyond_the_years(self):
        self.assert_no_date((2099, 12, 1), 1)
        self.assert_no_date((2099, 12, 31), 2)
        self.assert_no_date((2000, 1, 1), 1200)
        self.assert_no_date((2000, 1, 31), -1)
        self.assert_no_date((2000, 12, 31), -12)
        self.assert_no_date((2099, 12, 31), -1200)

    def test_by_very_great_numbers(self):
        for many in (10 ** 6, 10 ** 30, 10 ** 300):
            self.assert_no_date((2050, 6, 15), many)
            self.assert_no_date((2050, 6, 15), -many)


class TextTest(unittest.TestCase):
    def assert_no_date(self, text):
        with self.subTest(text=text), self.assertRaises(NoDate):
            read_date(text)

    def test_written(self):
        self.assertEqual(written_date((2000, 1, 1)), "2000-01-01")
        self.assertEqual(written_date((2099, 12, 31)), "2099-12-31")
        self.assertEqual(written_date((2004, 2, 29)), "2004-02-29")
        self.assertEqual(written_date((2010, 10, 9)), "2010-10-09")

    def test_each_tells_the_other_on_every_day(self):
        for day in range(LAST_DAY + 1):
            date = date_of(day)
            text = written_date(date)
            self.assertEqual(text, datetime.date(*date).isoformat())
            self.assertEqual(read_date(text), date)
            self.assertIs(type(read_date(text)), tuple)

    def test_no_text_at_all(self):
        self.assert_no_date("")

    def test_dates_that_are_none(self):
        for text in ("1999-12-31", "2100-01-01", "0000-01-01", "9999-12-31", "2000-00-01",
                     "2000-13-01", "2000-01-00", "2000-01-32", "2000-02-30", "2001-02-29",
                     "2099-02-29", "2000-04-31", "2000-06-31", "2000-09-31", "2000-11-31",
                     "2000-99-99"):
            self.assert_no_date(text)

    def test_other_forms(self):
        for text in ("2000-1-1", "2000-01-1", "2000-1-01", "00-01-01", "20000101", "2000-0101",
                     "200001-01", "2000/01/01", "2000 01 01", "01-01-2000", "+2000-01-01",
                     "-2000-01-01", "2000--1-01", "2000-01--1", "2000-+1-01", "2000-01-+1",
                     "2000- 1-01", "2000-01- 1", " 000-01-01", "2_00-01-01", "2000-1_-01",
                     "2000-01-1_", "2000-01-1 ", "2000-01-1\n", " 2000-01-01", "2000-01-01 ",
                     "2000-01-01\n", "\n2000-01-01", "2000-01-01-", "-", "--", "----------",
                     "2000-01-01 2000-01-01", "2000-01-01-01", "abcd-ef-gh", "20OO-01-01",
                     "2000-0x-01", "(2000, 1, 1)", "2000:01:01", "2000-01-01T", "02000-01-01",
                     "2000-001-01", "2000-01-001", "2000"):
            self.assert_no_date(text)

    def test_one_sign_put_in_left_out_or_exchanged(self):
        signs = "".join(chr(code) for code in range(32, 127) if code != 37) + "\n"
        dates = {datetime.date(*date_of(day)).isoformat() for day in range(LAST_DAY + 1)}
        for text in ("2000-01-01", "2099-12-31", "2010-11-20"):
            texts = [text[:at] + text[at + 1:] for at in range(10)]
            texts += [text[:at] + sign + text[at:] for at in range(11) for sign in signs]
            texts += [text[:at] + sign + text[at + 1:] for at in range(10) for sign in signs]
            for other in texts:
                if other in dates:
                    self.assertEqual(written_date(read_date(other)), other)
                else:
                    self.assert_no_date(other)


if __name__ == "__main__":
    unittest.main()
