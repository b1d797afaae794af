"""Things to do, lists of them, and what leans on what."""

from dodays.again import is_rising, is_rule
from dodays.dates import FIGURES, LAST_DAY, is_whole
from dodays.errors import NoThing

# The places of a thing's fields.
NUMBER = 0
TEXT = 1
WEIGHT = 2
START = 3
DUE = 4
WANTS = 5
PARENT = 6
RULE = 7
HAND = 8
DONE = 9
MANY_FIELDS = 10
# Their names, each at its place.
FIELDS = ("number", "text", "weight", "start", "due", "wants", "parent", "rule", "hand", "done")

LAST_NUMBER = 999
GREATEST_WEIGHT = 9
LONGEST_TEXT = 20
LONGEST_HAND = 4
MOST_WANTS = 4
MOST_THINGS = 12
LETTERS = "abcdefghijklmnopqrstuvwxyz"


def is_number(thing):
    """Tell whether any thing is a thing's number."""
    return is_whole(thing, 1, LAST_NUMBER)


def is_day(thing):
    """Tell whether any thing is a day."""
    return is_whole(thing, 0, LAST_DAY)


def is_written_in(thing, signs, longest):
    """Tell whether any thing is a text of these signs, one or more, and no longer than this."""
    if not isinstance(thing, str) or not 1 <= len(thing) <= longest:
        return False
    return all(sign in signs for sign in thing)


def is_text(thing):
    """Tell whether any thing is a thing's text."""
    if not is_written_in(thing, LETTERS + FIGURES + " ", LONGEST_TEXT):
        return False
    return thing == thing.strip(" ") and "  " not in thing


def is_hand(thing):
    """Tell whether any thing is a hand."""
    return is_written_in(thing, LETTERS, LONGEST_HAND)


def are_wants(thing):
    """Tell whether any thing may be what a thing wants."""
    return is_rising(thing, 1, LAST_NUMBER) and len(thing) <= MOST_WANTS


def is_thing(thing):
    """Tell whether any thing is a thing to do, whatever the list."""
    if not isinstance(thing, tuple) or len(thing) != MANY_FIELDS:
        return False
    number, text, weight, start, due, wants, parent, rule, hand, done = thing
    if not is_number(number) or not is_text(text) or not is_whole(weight, 0, GREATEST_WEIGHT):
        return False
    if not all(day is None or is_day(day) for day in (start, due, done)):
        return False
    if not are_wants(wants) or not (parent is None or is_number(parent)):
        return False
    if rule is not None and (due is None or not is_rule(rule)):
        return False
    return hand is None or is_hand(hand)


def is_list(thing):
    """Tell whether any thing is a list."""
    if not isinstance(thing, tuple) or len(thing) > MOST_THINGS:
        return False
    if not all(is_thing(one) for one in thing):
        return False
    numbers = tuple(one[NUMBER] for one in thing)
    if not is_rising(numbers, 1, LAST_NUMBER):
        return False
    if not all(one in numbers and other in numbers for one, other in leanings(thing)):
        return False
    return leaning_on_themselves(thing) == ()


def partings(things):
    """Tell pairs of numbers: of a thing, and of one of its parts."""
    return [(thing[PARENT], thing[NUMBER]) for thing in things if thing[PARENT] is not None]


def leanings(things):
    """Tell pairs of numbers: of a thing, and of one that it leans on by itself."""
    wantings = [(thing[NUMBER], other) for thing in things for other in thing[WANTS]]
    return wantings + partings(things)


def reached(pairs, number):
    """Tell all numbers to which pairs lead from this one, step by step, rising."""
    told = set()
    ahead = [number]
    while ahead:
        at = ahead.pop()
        for one, other in pairs:
            # What was told is not asked again, so that this ends even where a thing leans on itself.
            if one == at and other not in told:
                told.add(other)
                ahead.append(other)
    return tuple(sorted(told))


def leans_on(things, number):
    """Tell what a thing leans on by itself, rising."""
    return tuple(sorted({other for one, other in leanings(things) if one == number}))


def under(things, number):
    """Tell all that a thing leans on, by others too, rising."""
    return reached(leanings(things), number)


def over(things, number):
    """Tell all that lean on a thing, by others too, rising."""
    return reached([(other, one) for one, other in leanings(things)], number)


def leaning_on_themselves(things):
    """Tell the numbers of all that lean on themselves, by others or not, in the list's order."""
    return tuple(thing[NUMBER] for thing in things if thing[NUMBER] in under(things, thing[NUMBER]))


def parts_under(things, number):
    """Tell the parts of a thing, theirs, and so on, rising."""
    return reached(partings(things), number)


def thing_of(things, number):
    """Tell the thing with this number."""
    for thing in things:
        # Python takes a truth for 0 or 1, the document does not.
        if thing[NUMBER] == number and not isinstance(number, bool):
            return thing
    raise NoThing("no thing of the list has this number")


def not_done(things):
    """Tell the numbers of all that are not done, in the list's order."""
    return tuple(thing[NUMBER] for thing in things if thing[DONE] is None)


def with_worth(things, number, field, worth):
    """Tell the list with another worth at this place of the thing with this number."""
    return tuple(
        thing[:field] + (worth,) + thing[field + 1:] if thing[NUMBER] == number else thing
        for thing in things
    )


def wanting_what_is_there(things):
    """Tell the list without wants of numbers that are none of its own."""
    numbers = [thing[NUMBER] for thing in things]
    told = things
    for thing in things:
        wants = tuple(other for other in thing[WANTS] if other in numbers)
        told = with_worth(told, thing[NUMBER], WANTS, wants)
    return told
