"""What is promised over the whole program: [0.1], [0.2], [0.3], [0.6], the interface."""

import copy
import importlib
import inspect
import random
import unittest

from dodays.again import days_of, longest_row, next_of, row_of_done
from dodays.dates import date_of, day_of, read_date, written_date
from dodays.doing import added, changed, done, put_off, put_under, removed, undone, wanting
from dodays.errors import DoError, NoThing
from dodays.opening import (due_at, first_up, hindered_by, is_open, opens, overdue, share_done, weight_at)
from dodays.planning import can_be_in_time, is_plan, late, plan
from dodays.reading import read
from dodays.sharing import merged
from dodays.things import FIELDS as FIELDS_OF_THINGS
from dodays.things import is_list, leans_on, over, under
from dodays.writing import written
from making import FIELDS, numbers_of, random_deed, random_list, replaced, thing, under_plainly

# Each function of the interface, and how many arguments it takes.
INTERFACE = {
    "dates": {"is_date": 1, "day_of": 1, "date_of": 1, "weekday": 1, "months_on": 2, "written_date": 1, "read_date": 1},
    "again": {"is_rule": 1, "is_of": 3, "next_of": 3, "days_of": 4, "row_of_done": 4, "longest_row": 4},
    "things": {"is_list": 1, "leans_on": 2, "under": 2, "over": 2},
    "opening": {"hindered_by": 2, "is_open": 3, "opens": 2, "due_at": 2, "weight_at": 2, "first_up": 3, "overdue": 2,
                "share_done": 2},
    "planning": {"plan": 3, "late": 2, "is_plan": 4, "can_be_in_time": 2},
    "doing": {"done": 3, "undone": 2, "put_off": 3, "added": 2, "removed": 2, "changed": 4, "wanting": 4, "put_under": 3},
    "sharing": {"merged": 3},
    "writing": {"written": 1},
    "reading": {"read": 1},
}
REFUSALS = ("NoDate", "NoThing", "NotOpen", "Ring", "BadThing", "NoRoom", "NoText")


def calls_on(things, number, other, day):
    """All functions that take a list, each with what it may be handed."""
    pairs = plan(things, day, 2)
    return ((is_list, things), (leans_on, things, number), (under, things, number), (over, things, number),
            (hindered_by, things, number), (is_open, things, number, day), (opens, things, day), (due_at, things, number),
            (weight_at, things, number), (first_up, things, day, None), (first_up, things, day, "a"),
            (overdue, things, day), (share_done, things, number), (plan, things, day, 1), (late, things, pairs),
            (is_plan, things, day, 2, pairs), (can_be_in_time, things, day), (done, things, number, day),
            (undone, things, number), (put_off, things, number, 3), (put_off, things, number, -3), (added, things, "new"),
            (added, things, ""), (removed, things, number), (changed, things, number, "weight", 4),
            (changed, things, number, "due", None), (changed, things, number, "rule", ("week", (0, 3))),
            (wanting, things, number, other, True), (wanting, things, number, other, False),
            (put_under, things, number, other), (put_under, things, number, None), (merged, things, things, things),
            (merged, (), things, things), (merged, things[1:], things, things[:-1]), (written, things))


def told_by(function, *given):
    """What a function tells, or how it refuses."""
    try:
        return function(*given)
    except DoError as error:
        return type(error)


def is_plain(told):
    """Whether all of it is tuples, texts, whole numbers, truths and None."""
    if type(told) is tuple:
        return all(map(is_plain, told))
    return told is None or type(told) in (str, int, bool)


class InterfaceTest(unittest.TestCase):
    def test_functions(self):
        for file, functions in INTERFACE.items():
            module = importlib.import_module(f"dodays.{file}")
            for name, many in functions.items():
                with self.subTest(file=file, name=name):
                    function = getattr(module, name)
                    self.assertTrue(inspect.isfunction(function))
                    self.assertEqual(function.__module__, f"dodays.{file}")
                    parameters = inspect.signature(function).parameters.values()
                    self.assertEqual(len(parameters), many)
                    self.assertTrue(all(one.kind is one.POSITIONAL_OR_KEYWORD for one in parameters))

    def test_refusals(self):
        errors = importlib.import_module("dodays.errors")
        for name in REFUSALS:
            with self.subTest(name=name):
                self.assertEqual(getattr(errors, name).__bases__, (errors.DoError,))
        self.assertEqual(errors.DoError.__bases__, (ValueError,))

    def test_fields(self):
        things = importlib.import_module("dodays.things")
        self.assertEqual(FIELDS_OF_THINGS, FIELDS)
        for place, name in enumerate(FIELDS):
            self.assertEqual(getattr(things, name.upper()), place)


class StoryTest(unittest.TestCase):
    """Things of some days in a household, from the first to the last [0.1]."""

    def test_story(self):
        today = day_of(read_date("2026-11-18"))
        things = ()
        for text in ("paint wall", "buy paint", "clean wall", "water flowers"):
            things = added(things, text)
        things = wanting(things, 1, 2, True)
        things = put_under(things, 3, 1)
        things = changed(things, 1, "due", today + 2)
        things = changed(changed(things, 4, "due", today), 4, "rule", ("each", 2))
        things = changed(things, 2, "hand", "ann")
        self.assertIs(is_list(things), True)
        self.assertEqual(opens(things, today), (2, 3, 4))
        self.assertEqual(first_up(things, today, None), (4, 2, 3))
        self.assertEqual(first_up(things, today, "bob"), (4, 3))
        self.assertEqual(plan(things, today, 2), ((today, 4), (today, 2), (today + 1, 3), (today + 1, 1)))
        self.assertIs(can_be_in_time(things, today), False)
        self.assertIs(can_be_in_time(put_off(things, 1, 1), today), True)
        self.assertEqual(written(things), "1 0 - 2026-11-20 - - - - 2 paint wall\n"
                                          "2 0 - - - ann - - - buy paint\n"
                                          "3 0 - - - - 1 - - clean wall\n"
                                          "4 0 - 2026-11-18 - - - each,2 - water flowers\n")
        self.assertEqual(read(written(things)), things)
        ann = done(things, 2, today)
        bob = added(done(done(things, 4, today), 3, today), "call ann")
        both = merged(things, ann, bob)
        self.assertEqual(both, merged(things, bob, ann))
        self.assertEqual(written(both), "1 0 - 2026-11-20 - - - - 2 paint wall\n"
                                        "2 0 - - 2026-11-18 ann - - - buy paint\n"
                                        "3 0 - - 2026-11-18 - 1 - - clean wall\n"
                                        "4 0 - 2026-11-20 - - - each,2 - water flowers\n"
                                        "5 0 - - - - - - - call ann\n")
        self.assertEqual(share_done(both, 1), (1, 2))
        self.assertIs(is_open(both, 1, today), True)
        self.assertEqual(overdue(both, today + 3), (1, 4))
        self.assertEqual(late(both, plan(both, today + 2, 1)), (4,))
        self.assertEqual(opens(removed(both, 1), today), (4, 5))
        self.assertEqual(undone(done(both, 1, today), 2), replaced(both, 2, done=None))
        watered = (today, today + 2, today + 4, today + 8)
        self.assertEqual(days_of(("each", 2), today, today, today + 8), tuple(range(today, today + 9, 2)))
        self.assertEqual(row_of_done(("each", 2), today, watered, today + 8), 1)
        self.assertEqual(longest_row(("each", 2), today, watered, today + 8), 3)
        self.assertEqual(written_date(date_of(next_of(("month", 31), today, today))), "2026-11-30")


class DeedsTest(unittest.TestCase):
    """Whatever is done with a list, it stays one, and without a ring [0.2] (a), (e)."""

    def test_rows_of_deeds(self):
        chance = random.Random(51)
        for _ in range(60):
            things = random_list(chance, chance.randrange(6))
            for _ in range(40):
                things = random_deed(chance, things)
                self.assertIs(is_list(things), True, things)
                for number in numbers_of(things):
                    self.assertNotIn(number, under_plainly(things, number))
                self.assertEqual(read(written(things)), things)

    def test_something_can_be_done_until_all_is(self):
        chance = random.Random(52)
        for _ in range(150):
            things = random_list(chance, chance.randrange(13))
            for number in numbers_of(things):
                things = changed(things, number, "rule", None)
            day = 0
            while any(own[9] is None for own in things):
                for number in opens(things, day):
                    self.assertTrue(all(own[9] is not None for own in things if own[0] in leans_on(things, number)))
                    if chance.random() < 0.5:
                        things = done(things, number, day)
                day += 1
                # Starts are no later than 9; each day something is done, if only by chance.
                self.assertLess(day, 300)
            self.assertEqual(plan(things, 0, 1), ())

    def test_unlike_lists_have_unlike_texts(self):
        chance = random.Random(53)
        by_text = {}
        for _ in range(400):
            things = random_deed(chance, random_list(chance, chance.randrange(3), last_day=2))
            self.assertEqual(by_text.setdefault(written(things), things), things)


class KindsTest(unittest.TestCase):
    """What is told and handed in is plain, the same is told again, nothing is changed [0.3]."""

    def test_told_again_and_nothing_changed(self):
        chance = random.Random(54)
        for _ in range(150):
            things = random_list(chance, chance.randrange(1, 13))
            number, other = (chance.choice(numbers_of(things)) for _ in range(2))
            calls = calls_on(things, number, other, chance.randrange(12))
            before = copy.deepcopy(things)
            told = [told_by(*call) for call in calls]
            self.assertEqual([told_by(*call) for call in reversed(calls)], told[::-1])
            self.assertEqual(things, before)
            for call, one in zip(calls, told):
                self.assertTrue(is_plain(one) or isinstance(one, type), (call, one))

    def test_truths_are_no_numbers(self):
        things = (thing(1), thing(2))
        for truth in (True, False):
            for call in ((hindered_by, things, truth), (is_open, things, truth, 3), (due_at, things, truth),
                         (weight_at, things, truth), (share_done, things, truth), (done, things, truth, 3),
                         (undone, things, truth), (put_off, things, truth, 3), (removed, things, truth),
                         (changed, things, truth, "weight", 3), (wanting, things, truth, 2, True),
                         (wanting, things, 2, truth, True), (wanting, things, 2, truth, False),
                         (put_under, things, truth, 2), (put_under, things, truth, None), (put_under, things, 2, truth)):
                with self.subTest(call=call):
                    self.assertIs(told_by(*call), NoThing)

    def test_all_signs_in_texts(self):
        for sign in map(chr, range(32, 127)):
            if sign == "%":
                continue
            for text in (sign, "a" + sign, "a" + sign + "b", sign * 21):
                is_good = text.replace(" ", "a").isalnum() and text == text.lower().strip() and len(text) < 21
                told = told_by(added, (), text)
                self.assertEqual(told == (thing(1, text=text),), is_good, text)
                line = f"1 0 - - - - - - - {text}\n"
                self.assertEqual(told_by(read, line) == (thing(1, text=text),), is_good, text)


class BeyondTest(unittest.TestCase):
    """Lists that are told may have more things, and later days [0.6]."""

    def test_all_functions_take_them(self):
        chance = random.Random(55)
        for _ in range(40):
            parts = [random_list(chance, 10) for _ in range(3)]
            # Numbers of the three lists do not meet.
            moved = tuple((own[0] + 40 * at, *own[1:5], tuple(wanted + 40 * at for wanted in own[5]),
                           None if own[6] is None else own[6] + 40 * at, *own[7:])
                          for at, things in enumerate(parts) for own in things)
            things = tuple((*own[:3], *(None if day is None else day + 36520 for day in own[3:5]), *own[5:9],
                            None if own[9] is None else own[9] + 36520) for own in moved)
            self.assertEqual(merged((), merged((), moved[:10], moved[10:20]), moved[20:]), moved)
            self.assertIs(is_list(things), False)
            number, other = (chance.choice(numbers_of(things)) for _ in range(2))
            for function, *given in calls_on(things, number, other, 36520 + chance.randrange(12)):
                told = told_by(function, *given)
                self.assertTrue(is_plain(told) or issubclass(told, DoError), (function, told))

    def test_later_days_tell_the_same_as_earlier_ones(self):
        chance = random.Random(56)
        for _ in range(100):
            things = tuple((*own[:7], None, *own[8:]) for own in random_list(chance, chance.randrange(1, 13)))
            later = tuple((*own[:3], *(None if day is None else day + 40000 for day in own[3:5]), *own[5:9],
                           None if own[9] is None else own[9] + 40000) for own in things)
            number, other = (chance.choice(numbers_of(things)) for _ in range(2))
            day = chance.randrange(12)
            for function, *rest in ((opens, day), (overdue, day), (first_up, day, None)):
                self.assertEqual(function(things, *rest), function(later, rest[0] + 40000, *rest[1:]))
            for function, *rest in ((undone, number), (removed, number), (changed, number, "weight", 3),
                                    (wanting, number, other, True), (put_under, number, other), (added, "x")):
                told, told_later = told_by(function, things, *rest), told_by(function, later, *rest)
                if isinstance(told, type):
                    self.assertIs(told_later, told)
                else:
                    self.assertEqual(tuple((*own[:3], *own[5:9]) for own in told_later),
                                     tuple((*own[:3], *own[5:9]) for own in told))
            self.assertEqual(is_plan(later, day + 40000, 1, plan(later, day + 40000, 1)), True)
            self.assertEqual(can_be_in_time(later, day + 40000), can_be_in_time(things, day))


if __name__ == "__main__":
    unittest.main()
