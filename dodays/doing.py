"""Deeds: things are done, put off, added, removed and changed."""

from dodays.again import is_rule, next_of
from dodays.dates import LAST_DAY, is_whole
from dodays.errors import BadThing, NoDate, NoRoom, NotOpen, Ring
from dodays.opening import is_open
from dodays.things import DONE, DUE, FIELDS, NUMBER, PARENT, RULE, START, TEXT, WANTS, WEIGHT
from dodays.things import GREATEST_WEIGHT, LAST_NUMBER, MOST_THINGS, MOST_WANTS
from dodays.things import is_day, is_hand, is_text, leaning_on_themselves, over, parts_under
from dodays.things import thing_of, wanting_what_is_there, with_worth

CHANGEABLE = ("text", "weight", "start", "due", "rule", "hand")


def with_none_done(things, numbers):
    """Tell the list with none of these numbers done."""
    told = things
    for number in numbers:
        told = with_worth(told, number, DONE, None)
    return told


def next_due(thing, day):
    """Tell the due that a thing has when it was done on a day and comes again, or None."""
    if thing[RULE] is None:
        return None
    return next_of(thing[RULE], thing[DUE], max(day, thing[DUE]))


def done(things, number, day):
    """Tell the list with a thing done on a day, or, where it comes again, due anew."""
    if not is_open(things, number, day):
        raise NotOpen("the thing can not be done on this day")
    asked = thing_of(things, number)
    due = next_due(asked, day)
    if due is None:
        return with_worth(things, number, DONE, day)
    told = with_worth(things, number, DUE, due)
    if asked[START] is not None:
        start = min(asked[START] + due - asked[DUE], LAST_DAY)
        told = with_worth(told, number, START, start)
    # The thing itself was not done, or it could not have been done now: only its parts may be.
    return with_none_done(told, parts_under(things, number))


def undone(things, number):
    """Tell the list with a thing, and all over it, not done."""
    asked = thing_of(things, number)
    return with_none_done(things, (asked[NUMBER],) + over(things, number))


def later(day, many):
    """Tell the day so many days later, None of None."""
    if day is None:
        return None
    if not is_day(day + many):
        raise NoDate("so many days later is no day")
    return day + many


def put_off(things, number, many):
    """Tell the list with a thing's start and due so many days later."""
    asked = thing_of(things, number)
    told = with_worth(things, number, START, later(asked[START], many))
    return with_worth(told, number, DUE, later(asked[DUE], many))


def added(things, text):
    """Tell the list with a new thing of this text at the end."""
    if not is_text(text):
        raise BadThing("this is no thing's text")
    number = max([thing[NUMBER] for thing in things], default=0) + 1
    if len(things) >= MOST_THINGS or number > LAST_NUMBER:
        raise NoRoom("the list has no room for one more thing")
    return things + ((number, text, 0, None, None, (), None, None, None, None),)


def removed(things, number):
    """Tell the list without a thing, its parts, theirs, and so on."""
    asked = thing_of(things, number)
    gone = (asked[NUMBER],) + parts_under(things, number)
    return wanting_what_is_there(tuple(thing for thing in things if thing[NUMBER] not in gone))


def is_worth(place, worth):
    """Tell whether any thing may be the worth at this place of a thing."""
    if place == TEXT:
        return is_text(worth)
    if place == WEIGHT:
        return is_whole(worth, 0, GREATEST_WEIGHT)
    if worth is None:
        return True
    if place == RULE:
        return is_rule(worth)
    return is_day(worth) if place in (START, DUE) else is_hand(worth)


def changed(things, number, field, worth):
    """Tell the list with another worth in a field of a thing."""
    thing_of(things, number)
    if field not in CHANGEABLE:
        raise BadThing("this is no field that can be changed")
    place = FIELDS.index(field)
    if not is_worth(place, worth):
        raise BadThing("this is no worth of the field")
    told = with_worth(things, number, place, worth)
    # Its other fields are not asked again: a list that was told may have later days.
    own = thing_of(told, number)
    if own[RULE] is not None and own[DUE] is None:
        raise BadThing("a rule stands only beside a due")
    return told


def without_rings(things):
    """Tell this very list, unless a thing of it leans on itself."""
    if leaning_on_themselves(things) != ():
        raise Ring("a thing would lean on itself")
    return things


def wanting(things, number, other, is_on):
    """Tell the list with another thing among what a thing wants, or without it."""
    asked = thing_of(things, number)
    wanted = thing_of(things, other)[NUMBER]
    wants = [one for one in asked[WANTS] if one != wanted]
    if not is_on:
        return with_worth(things, number, WANTS, tuple(wants))
    if len(wants) >= MOST_WANTS:
        raise NoRoom("the thing has no room for one more want")
    return without_rings(with_worth(things, number, WANTS, tuple(sorted(wants + [wanted]))))


def put_under(things, number, parent):
    """Tell the list with this parent of a thing, or with none."""
    thing_of(things, number)
    if parent is not None:
        thing_of(things, parent)
    return without_rings(with_worth(things, number, PARENT, parent))
