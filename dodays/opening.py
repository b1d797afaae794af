"""What can be done on a day, and what of it is first."""

from dodays.things import DONE, DUE, HAND, NUMBER, START, WEIGHT
from dodays.things import leanings, leans_on, not_done, over, parts_under, thing_of


def hindered_by(things, number):
    """Tell what a thing leans on by itself that is not done, rising."""
    asked = thing_of(things, number)
    waiting = not_done(things)
    return tuple(other for other in leans_on(things, asked[NUMBER]) if other in waiting)


def is_open(things, number, day):
    """Tell whether a thing can be done on a day."""
    asked = thing_of(things, number)
    if asked[DONE] is not None or hindered_by(things, number) != ():
        return False
    return asked[START] is None or asked[START] <= day


def opens(things, day):
    """Tell all that can be done on a day, rising."""
    return tuple(thing[NUMBER] for thing in things if is_open(things, thing[NUMBER], day))


def due_at(things, number):
    """Tell by when a thing must be done for its own due and for those of all that wait for it."""
    level = [thing_of(things, number)[NUMBER]]
    waiting = not_done(things)
    pairs = [(one, other) for one, other in leanings(things) if one in waiting]
    dues = {thing[NUMBER]: thing[DUE] for thing in things}
    told = []
    # No thing leans on itself, so no chain of them has more steps than the list has things.
    for steps in range(len(things)):
        told.extend([dues[at] - steps for at in level if dues[at] is not None])
        level = sorted({one for one, other in pairs if other in level})
    return min(told, default=None)


def weight_at(things, number):
    """Tell the greatest weight of a thing and of all over it that are not done."""
    asked = thing_of(things, number)
    higher = over(things, number)
    weights = [thing[WEIGHT] for thing in things if thing[NUMBER] in higher and thing[DONE] is None]
    return max([asked[WEIGHT]] + weights)


def rank(things, number):
    """Tell by what a thing stands among others that can be done: lesser ranks are first."""
    due = due_at(things, number)
    # None has no place among the days, so whether there is one is asked ahead of it.
    return (due is None, 0 if due is None else due, -weight_at(things, number), number)


def is_for(things, number, hand):
    """Tell whether a thing is one for this hand."""
    return hand is None or thing_of(things, number)[HAND] in (None, hand)


def first_up(things, day, hand):
    """Tell all that a hand can do on a day, what is first ahead."""
    numbers = [number for number in opens(things, day) if is_for(things, number, hand)]
    return tuple(sorted(numbers, key=lambda number: rank(things, number)))


def overdue(things, day):
    """Tell all that are not done and whose due is ahead of the day, lesser dues first."""
    pairs = [(thing[DUE], thing[NUMBER]) for thing in things
             if thing[DONE] is None and thing[DUE] is not None and thing[DUE] < day]
    return tuple(number for due, number in sorted(pairs))


def share_done(things, number):
    """Tell how many of a thing, its parts, theirs, and so on are done, and how many they are."""
    asked = thing_of(things, number)
    whole = (asked[NUMBER],) + parts_under(things, number)
    waiting = not_done(things)
    return (len([one for one in whole if one not in waiting]), len(whole))
