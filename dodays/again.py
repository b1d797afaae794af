"""Rules by which days come again, and rows of such days that were done."""

from dodays.dates import FIRST_YEAR, LAST_DAY, date_of, is_whole, month_length, weekday


def is_rising(thing, least, greatest):
    """Tell whether any thing is a rising tuple of unlike whole numbers within these bounds."""
    if not isinstance(thing, tuple):
        return False
    for number in thing:
        if not is_whole(number, least, greatest):
            return False
    return list(thing) == sorted(set(thing))


def is_rule_of_year(month, at):
    """Tell whether a year's rule may have any things as its month and day."""
    return is_whole(month, 1, 12) and is_whole(at, 1, month_length(FIRST_YEAR, month))


def is_rule(thing):
    """Tell whether any thing is a rule."""
    if not isinstance(thing, tuple) or len(thing) not in (2, 3):
        return False
    word = thing[0]
    if len(thing) == 3:
        return word == "year" and is_rule_of_year(thing[1], thing[2])
    if word == "each":
        return is_whole(thing[1], 1, 999)
    if word == "week":
        return is_rising(thing[1], 0, 6) and len(thing[1]) > 0
    return word == "month" and is_whole(thing[1], 1, 31)


def is_of(rule, start, day):
    """Tell whether a day is one of the rule's, from the day start on."""
    if day < start:
        return False
    word = rule[0]
    if word == "each":
        # A number below 1 is none of a rule's, but must not end in an error.
        return (day - start) % max(1, rule[1]) == 0
    if word == "week":
        return weekday(day) in rule[1]
    year, month, at = date_of(day)
    if word == "year" and month != rule[1]:
        return False
    return at == min(rule[-1], month_length(year, month))


def next_of(rule, start, after):
    """Tell the first of the rule's days that is greater than after, or None."""
    for day in range(max(start, after + 1), LAST_DAY + 1):
        if is_of(rule, start, day):
            return day
    return None


def days_of(rule, start, first, last):
    """Tell all of the rule's days from first to last."""
    return tuple(day for day in range(max(start, first), last + 1) if is_of(rule, start, day))


def row_of_done(rule, start, days, day):
    """Tell how many of the rule's last days up to a day were done without a gap."""
    were_done = set(days)
    row = 0
    for at in range(day, start - 1, -1):
        if not is_of(rule, start, at):
            continue
        if at in were_done:
            row += 1
        elif at != day:
            # The day itself may still be done, so it alone ends no row.
            break
    return row


def longest_row(rule, start, days, day):
    """Tell the most of the rule's days up to a day that were done without a gap."""
    were_done = set(days)
    row = 0
    longest = 0
    for at in days_of(rule, start, start, day):
        row = row + 1 if at in were_done else 0
        longest = max(longest, row)
    return longest
