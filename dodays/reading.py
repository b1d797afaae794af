"""Lists read from texts."""

from dodays.dates import FIGURES, day_of, read_date
from dodays.errors import NoDate, NoText
from dodays.things import MANY_FIELDS, is_list, is_written_in
from dodays.writing import NOTHING, written

# No number of a list but its days, which are written as dates, has more figures.
MOST_FIGURES = 3


def read_number(word):
    """Tell the number of a word, noughts ahead or not."""
    if not is_written_in(word, FIGURES, MOST_FIGURES):
        raise NoText("a number is written in one to three figures")
    return int(word)


def read_numbers(words):
    """Tell the numbers of words."""
    return tuple(read_number(word) for word in words)


def read_day(word):
    """Tell the day of a word, or None."""
    if word == NOTHING:
        return None
    try:
        return day_of(read_date(word))
    except NoDate:
        raise NoText("a day is written as a date")


def read_rule(word):
    """Tell the rule of a word, or None."""
    if word == NOTHING:
        return None
    words = word.split(",")
    numbers = read_numbers(words[1:])
    return ("week", numbers) if words[0] == "week" else (words[0],) + numbers


def read_line(line):
    """Tell the thing of a line, whether or not it may stand in a list."""
    words = line.split(" ")
    if len(words) < MANY_FIELDS:
        raise NoText("a line has ten words or more")
    number, weight, start, due, done, hand, parent, rule, wants = words[:MANY_FIELDS - 1]
    return (
        read_number(number),
        # The text is last, so that its blanks part no fields.
        " ".join(words[MANY_FIELDS - 1:]),
        read_number(weight),
        read_day(start),
        read_day(due),
        () if wants == NOTHING else read_numbers(wants.split(",")),
        None if parent == NOTHING else read_number(parent),
        read_rule(rule),
        None if hand == NOTHING else hand,
        read_day(done),
    )


def read(text):
    """Tell the list whose text this is."""
    lines = text.split("\n")
    if lines[-1] != "":
        raise NoText("each line ends in a line feed")
    things = tuple(read_line(line) for line in lines[:-1])
    # Of several texts that read alike, as with noughts ahead, only the written one is the list's.
    if not is_list(things) or written(things) != text:
        raise NoText("this is no list's text")
    return things
