"""Dates, their days and their texts."""

from dodays.errors import NoDate

FIRST_YEAR = 2000
LAST_YEAR = 2099
LAST_DAY = 36524
DAYS_OF_FOUR_YEARS = 1461
# Day 0 was a Saturday.
FIRST_WEEKDAY = 5
FIGURES = "0123456789"


def is_whole(thing, least, greatest):
    """Tell whether any thing is a whole number within these bounds."""
    # Python counts truths among the integers, the document does not.
    if not isinstance(thing, int) or isinstance(thing, bool):
        return False
    return least <= thing <= greatest


def is_long(year):
    """Tell whether a year's February has 29 days."""
    return year % 4 == 0


def year_length(year):
    """Tell how many days a year has."""
    return 366 if is_long(year) else 365


def month_length(year, month):
    """Tell how many days a month has."""
    if month == 2:
        return 29 if is_long(year) else 28
    return 30 if month in (4, 6, 9, 11) else 31


def is_date(thing):
    """Tell whether any thing is a date."""
    if not isinstance(thing, tuple) or len(thing) != 3:
        return False
    year, month, day = thing
    if not is_whole(year, FIRST_YEAR, LAST_YEAR) or not is_whole(month, 1, 12):
        return False
    return is_whole(day, 1, month_length(year, month))


def day_of(date):
    """Tell the day of a date."""
    year, month, day = date
    years = year - FIRST_YEAR
    # The first of each four years is the long one, so the fours are rounded up.
    ahead_of_year = 365 * years + (years + 3) // 4
    ahead_of_month = sum([month_length(year, at) for at in range(1, month)])
    return ahead_of_year + ahead_of_month + day - 1


def date_of(day):
    """Tell the date of a day."""
    fours, left = divmod(day, DAYS_OF_FOUR_YEARS)
    year = FIRST_YEAR + 4 * fours
    while left >= year_length(year):
        left -= year_length(year)
        year += 1
    month = 1
    while left >= month_length(year, month):
        left -= month_length(year, month)
        month += 1
    return (year, month, left + 1)


def weekday(day):
    """Tell the day of the week of a day, 0 being Monday."""
    return (day + FIRST_WEEKDAY) % 7


def months_on(date, many):
    """Tell the date so many months on, or back."""
    year, month, day = date
    later_year, months = divmod(12 * year + month - 1 + many, 12)
    if not is_whole(later_year, FIRST_YEAR, LAST_YEAR):
        raise NoDate("so many months on is in none of the years told")
    later_month = months + 1
    return (later_year, later_month, min(day, month_length(later_year, later_month)))


def written_date(date):
    """Tell the text of a date."""
    year, month, day = date
    return f"{year:04d}-{month:02d}-{day:02d}"


def is_in_figures(text):
    """Tell whether a text has figures and lines just where a date's text has them."""
    if len(text) != 10 or text[4] != "-" or text[7] != "-":
        return False
    return all(sign in FIGURES for sign in text[:4] + text[5:7] + text[8:])


def read_date(text):
    """Tell the date whose text this is."""
    if not is_in_figures(text):
        raise NoDate("a date is written as four figures, two and two, with a - between")
    date = (int(text[:4]), int(text[5:7]), int(text[8:]))
    if not is_date(date):
        raise NoDate("there is no such date in the years told")
    return date
