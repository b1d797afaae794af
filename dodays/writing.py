"""Lists written as texts."""

from dodays.dates import date_of, written_date

# What stands for None, and for no wants.
NOTHING = "-"


def written_word(worth):
    """Tell the word of a number or a hand, or of None."""
    return NOTHING if worth is None else str(worth)


def written_day(day):
    """Tell the word of a day, or of None."""
    return NOTHING if day is None else written_date(date_of(day))


def written_row(worths):
    """Tell the word of words and numbers, one or more, or of none."""
    return NOTHING if len(worths) == 0 else ",".join([str(worth) for worth in worths])


def written_rule(rule):
    """Tell the word of a rule, or of None."""
    if rule is None:
        return NOTHING
    return written_row(("week",) + rule[1] if rule[0] == "week" else rule)


def written_line(thing):
    """Tell the line of a thing."""
    number, text, weight, start, due, wants, parent, rule, hand, done = thing
    words = [str(number), str(weight), written_day(start), written_day(due), written_day(done), written_word(hand),
             written_word(parent), written_rule(rule), written_row(wants), text]
    return " ".join(words) + "\n"


def written(things):
    """Tell the text of a list."""
    return "".join([written_line(thing) for thing in things])
