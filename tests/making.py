"""Things and lists for tests."""

import copy
import unittest

from dodays.doing import added, changed, done, put_off, put_under, removed, undone, wanting
from dodays.errors import DoError
from dodays.things import is_list

FIELDS = ("number", "text", "weight", "start", "due", "wants", "parent", "rule", "hand", "done")
# None of these is a number of a list whose numbers begin with 2, 1 standing for what True is taken for.
NO_NUMBERS = (1, 0, -1, -2, 999, 1000, 10 ** 30, True, False)
RULES = (("each", 1), ("each", 999), ("week", (0,)), ("week", (0, 2, 6)), ("month", 31), ("year", 2, 29))


def thing(number, text="do it", weight=0, start=None, due=None, wants=(), parent=None, rule=None,
          hand=None, done=None):
    """A thing with these fields."""
    return (number, text, weight, start, due, wants, parent, rule, hand, done)


def numbers_of(things):
    """The numbers of a list."""
    return tuple(one[0] for one in things)


def random_list(chance, many, last_day=9, share_done=0.2, share_leaning=0.5):
    """A list of so many things; days are few, so that many are alike."""
    numbers = sorted(chance.sample(range(1, 3 * many + 2), many))
    # Each leans only on what is ahead in this order, so that none leans on itself.
    order = chance.sample(numbers, many)

    def day_or_none():
        return chance.randrange(last_day + 1) if chance.random() < 0.6 else None

    things = []
    for number in numbers:
        at = order.index(number)
        wanted = [other for other in order[:at] if chance.random() < share_leaning][:4]
        parent = chance.choice(order[at + 1:]) if at + 1 < many and chance.random() < share_leaning else None
        due = day_or_none()
        things.append(thing(
            number, weight=chance.randrange(4), start=day_or_none(), due=due, wants=tuple(sorted(wanted)),
            parent=parent, rule=chance.choice((None, *RULES)) if due is not None else None,
            hand=chance.choice((None, "a", "b")),
            done=chance.randrange(last_day + 1) if chance.random() < share_done else None))
    return tuple(things)


def leant_on_plainly(things, number):
    """What a thing leans on by itself, as the document says it."""
    own = next(one for one in things if one[0] == number)
    parts = [one[0] for one in things if one[6] == number]
    return set(own[5]) | set(parts)


def under_plainly(things, number):
    """All that a thing leans on."""
    told = set()
    for other in leant_on_plainly(things, number):
        told |= {other} | under_plainly(things, other)
    return told


def not_done_plainly(things):
    """The numbers of all that are not done."""
    return {one[0] for one in things if one[9] is None}


def open_plainly(things, number, day):
    """Whether a thing can be done on a day, as the document says it."""
    own = next(one for one in things if one[0] == number)
    waiting = not_done_plainly(things)
    return number in waiting and not leant_on_plainly(things, number) & waiting and (own[3] is None or own[3] <= day)


def done_plainly(things, number, day):
    """The list with one thing done on a day."""
    return tuple((*one[:9], day) if one[0] == number else one for one in things)


def over_plainly(things, number):
    """All that lean on a thing."""
    return {one[0] for one in things if number in under_plainly(things, one[0])}


def parts_plainly(things, number):
    """The parts of a thing, theirs, and so on."""
    told = set()
    for one in things:
        if one[6] == number:
            told |= {one[0]} | parts_plainly(things, one[0])
    return told


def replaced(things, number, **worths):
    """The list with other worths in one thing."""
    return tuple(tuple(worths.get(name, worth) for name, worth in zip(FIELDS, one)) if one[0] == number else one
                 for one in things)


def random_deed(chance, things):
    """The list after some deed, the same list if that is refused."""
    if not things:
        return added(things, "new")
    number, other = (chance.choice(numbers_of(things)) for _ in range(2))
    deeds = (lambda: done(things, number, chance.randrange(12)), lambda: undone(things, number),
             lambda: put_off(things, number, chance.randrange(-3, 9)), lambda: removed(things, number),
             lambda: added(things, chance.choice(("new", "newer"))),
             lambda: changed(things, number, "text", chance.choice(("a", "b", "c d"))),
             lambda: changed(things, number, "weight", chance.randrange(10)),
             lambda: changed(things, number, "start", chance.choice((None, 3, 4, 5))),
             lambda: changed(things, number, "due", chance.choice((None, 3, 4, 5))),
             lambda: changed(things, number, "rule", chance.choice((None, *RULES))),
             lambda: changed(things, number, "hand", chance.choice((None, "a", "b", "c"))),
             lambda: wanting(things, number, other, chance.random() < 0.7),
             lambda: wanting(things, number, other, chance.random() < 0.7),
             lambda: put_under(things, number, chance.choice((None, other))),
             lambda: put_under(things, number, other))
    try:
        return chance.choice(deeds)()
    except DoError:
        return things


class DeedTest(unittest.TestCase):
    """Deeds tell lists, and refuse the same however often they are asked."""

    def assert_told(self, told, things):
        self.assertEqual(told, things)
        # Python takes truths for numbers, and repr does not.
        self.assertEqual(repr(told), repr(things))
        self.assertIs(is_list(told), True, told)

    def assert_refused(self, refusal, function, *given):
        before = copy.deepcopy(given)
        for _ in range(2):
            with self.subTest(function=function.__name__, given=given):
                try:
                    told = function(*given)
                except ValueError as error:
                    self.assertIs(type(error), refusal)
                else:
                    self.fail(f"not refused: {told}")
        self.assertEqual(given, before)
