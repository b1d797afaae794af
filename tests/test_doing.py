"""Things done, undone and put off: [0.2] (e), [0.3], [6.1]."""

import random
import unittest

from dodays.again import is_of
from dodays.doing import done, put_off, undone
from dodays.errors import NoDate, NotOpen, NoThing
from dodays.things import is_list
from making import (DeedTest, NO_NUMBERS, RULES, done_plainly, numbers_of, open_plainly, over_plainly,
                    parts_plainly, random_list, replaced, thing)

LAST_DAY = 36524


def done_by_the_words(things, number, day):
    """The list with a thing done that can be, each of the document's words by itself."""
    own = next(one for one in things if one[0] == number)
    start, due, rule = own[3], own[4], own[7]
    days = (at for at in range(due, LAST_DAY + 1) if is_of(rule, due, at) and at > day and at > due) if rule else ()
    later = next(iter(days), None)
    if later is None:
        return done_plainly(things, number, day)
    moved = None if start is None else min(LAST_DAY, start + later - due)
    whole = {number} | parts_plainly(things, number)
    things = replaced(things, number, start=moved, due=later)
    return tuple((*one[:9], None) if one[0] in whole else one for one in things)


class DoneTest(DeedTest):
    def test_without_a_rule(self):
        for day in (0, 5, LAST_DAY):
            self.assert_told(done((thing(1),), 1, day), (thing(1, done=day),))
        things = (thing(1, text="a", weight=3, due=4, hand="ann"), thing(2, wants=(1,)), thing(3, start=9))
        self.assert_told(done(things, 1, 7), replaced(things, 1, done=7))

    def test_only_this_one_is_done(self):
        things = (thing(1, parent=3), thing(2, parent=3), thing(3), thing(4))
        self.assert_told(done(things, 2, 7), replaced(things, 2, done=7))

    def test_what_it_leans_on_stays_done(self):
        things = (thing(1, done=2), thing(2, wants=(1,)), thing(3, parent=2, done=4))
        self.assert_told(done(things, 2, 5), replaced(things, 2, done=5))

    def test_on_the_day_of_its_start(self):
        self.assert_told(done((thing(1, start=5),), 1, 5), (thing(1, start=5, done=5),))

    def test_with_a_rule_before_its_due(self):
        things = (thing(1, due=10, rule=("each", 3)),)
        for day in (0, 7, 9):
            self.assert_told(done(things, 1, day), (thing(1, due=13, rule=("each", 3)),))

    def test_with_a_rule_on_its_due(self):
        self.assert_told(done((thing(1, due=10, rule=("each", 3)),), 1, 10), (thing(1, due=13, rule=("each", 3)),))

    def test_with_a_rule_behind_its_due(self):
        things = (thing(1, due=10, rule=("each", 3)),)
        for day, due in ((11, 13), (12, 13), (13, 16), (14, 16), (15, 16), (16, 19), (1000, 1003)):
            self.assert_told(done(things, 1, day), (thing(1, due=due, rule=("each", 3)),))

    def test_each_kind_of_rule(self):
        # Day 2 is a Monday, day 30 the last of January 2000, day 59 the 29th of February.
        for rule, due, day, later in ((("week", (0,)), 2, 2, 9), (("week", (0, 6)), 2, 2, 8), (("week", (0,)), 3, 3, 9),
                                      (("week", (3,)), 2, 0, 5), (("month", 31), 30, 30, 59), (("month", 31), 59, 59, 90),
                                      (("month", 31), 5, 5, 30), (("year", 2, 29), 59, 59, 424),
                                      (("year", 2, 29), 0, 0, 59), (("year", 2, 29), 59, 424, 789),
                                      (("each", 999), 0, 0, 999), (("each", 1), 0, 6, 7)):
            with self.subTest(rule=rule, due=due, day=day):
                self.assert_told(done((thing(1, due=due, rule=rule),), 1, day), (thing(1, due=later, rule=rule),))

    def test_the_rule_counts_from_the_due_not_from_the_start_or_the_day(self):
        things = (thing(1, start=4, due=10, rule=("each", 5)),)
        self.assert_told(done(things, 1, 12), (thing(1, start=9, due=15, rule=("each", 5)),))

    def test_a_start_moves_as_the_due_does(self):
        rule = ("each", 7)
        for start, due, day, later in ((3, 10, 10, (10, 17)), (0, 10, 3, (7, 17)), (10, 10, 10, (17, 17)),
                                       (12, 10, 12, (19, 17)), (3, 10, 20, (17, 24))):
            with self.subTest(start=start, due=due, day=day):
                self.assert_told(done((thing(1, start=start, due=due, rule=rule),), 1, day),
                                 (thing(1, start=later[0], due=later[1], rule=rule),))

    def test_a_start_does_not_move_beyond_the_last_day(self):
        rule = ("each", 10)
        for start, later in ((36512, 36522), (36513, 36523), (36514, 36524), (36515, 36524), (36516, 36524)):
            things = (thing(1, start=start, due=36510, rule=rule),)
            with self.subTest(start=start):
                self.assert_told(done(things, 1, start), (thing(1, start=later, due=36520, rule=rule),))
        # The last day is a Thursday, so that a due moves by a hundred years, and its start would too.
        self.assert_told(done((thing(1, start=36523, due=0, rule=("week", (3,))),), 1, 36523),
                         (thing(1, start=36524, due=36524, rule=("week", (3,))),))

    def test_no_day_of_the_rule_left(self):
        for rule, due, day in ((("each", 3), 36522, 36522), (("each", 3), 36522, 0), (("each", 1), 5, 36524),
                               (("each", 1), 36524, 36524), (("each", 1), 36524, 0), (("each", 999), 36000, 36000),
                               (("month", 31), 36524, 36500), (("year", 2, 29), 36300, 36300), (("week", (4, 5)), 36520, 36520)):
            for start in (None, 0):
                things = (thing(1, start=start, due=due, rule=rule), thing(2, parent=1, done=3))
                with self.subTest(rule=rule, due=due, day=day):
                    self.assert_told(done(things, 1, day), replaced(things, 1, done=day))

    def test_the_last_day_of_the_rule(self):
        for rule, due in ((("each", 2), 36522), (("month", 31), 36493), (("week", (3,)), 36520)):
            with self.subTest(rule=rule):
                self.assert_told(done((thing(1, due=due, rule=rule),), 1, due), (thing(1, due=LAST_DAY, rule=rule),))

    def test_parts_of_what_comes_again_are_not_done(self):
        rule = ("each", 2)
        things = (thing(1, due=4, rule=rule), thing(2, parent=1, done=3), thing(3, parent=2, done=2),
                  thing(4, parent=3, due=9, start=1, done=1), thing(5, parent=1, done=4), thing(6, done=4))
        self.assert_told(done(things, 1, 4), (
            thing(1, due=6, rule=rule), thing(2, parent=1), thing(3, parent=2), thing(4, parent=3, due=9, start=1),
            thing(5, parent=1), thing(6, done=4)))

    def test_what_it_wants_and_what_is_over_it_is_left(self):
        rule = ("each", 2)
        things = (thing(1, done=3), thing(2, due=4, rule=rule, wants=(1,), parent=3), thing(3, done=5),
                  thing(4, wants=(2,), done=5), thing(5, parent=1, done=6))
        self.assert_told(done(things, 2, 4), replaced(things, 2, due=6))

    def test_what_comes_again_can_be_done_again(self):
        things = (thing(1, due=4, rule=("each", 2)),)
        for due in range(6, 40, 2):
            things = done(things, 1, due - 2)
            self.assert_told(things, (thing(1, due=due, rule=("each", 2)),))

    def test_hindered(self):
        for things in ((thing(1, wants=(2,)), thing(2)), (thing(1), thing(2, parent=1)),
                       (thing(1, wants=(2, 3)), thing(2, done=3), thing(3)),
                       (thing(1, due=4, rule=("each", 2)), thing(2, parent=1))):
            self.assert_refused(NotOpen, done, things, 1, 9)

    def test_done_already(self):
        self.assert_refused(NotOpen, done, (thing(1, done=3),), 1, 9)
        self.assert_refused(NotOpen, done, (thing(1, done=12),), 1, 9)
        self.assert_refused(NotOpen, done, (thing(1, done=0, due=3, rule=("each", 1)),), 1, 9)

    def test_starts_later(self):
        self.assert_refused(NotOpen, done, (thing(1, start=10),), 1, 9)
        self.assert_refused(NotOpen, done, (thing(1, start=10, due=4, rule=("each", 2)),), 1, 9)

    def test_no_thing_ahead_of_not_open(self):
        for things in ((), (thing(2),), (thing(2, done=3),), (thing(2, start=10), thing(3, wants=(2,)))):
            for number in NO_NUMBERS:
                self.assert_refused(NoThing, done, things, number, 9)

    def test_by_the_words(self):
        chance = random.Random(11)
        refused = again = 0
        for _ in range(1500):
            things = random_list(chance, chance.randrange(1, 10), share_done=chance.choice((0.2, 0.5, 0.8)))
            number = chance.choice(numbers_of(things))
            day = chance.randrange(12)
            if not open_plainly(things, number, day):
                refused += 1
                self.assert_refused(NotOpen, done, things, number, day)
                continue
            told = done(things, number, day)
            again += told != done_plainly(things, number, day)
            self.assert_told(told, done_by_the_words(things, number, day))
        self.assertTrue(refused > 300 and again > 100, (refused, again))


class UndoneTest(DeedTest):
    def test_alone(self):
        self.assert_told(undone((thing(1, done=4),), 1), (thing(1),))
        things = (thing(1, text="a", weight=3, start=2, due=4, rule=("each", 3), hand="ann", done=5), thing(2, done=6))
        self.assert_told(undone(things, 1), replaced(things, 1, done=None))

    def test_what_leans_on_it(self):
        things = (thing(1, done=1, parent=3), thing(2, wants=(1,), done=2), thing(3, done=3), thing(4, done=4))
        self.assert_told(undone(things, 1), (thing(1, parent=3), thing(2, wants=(1,)), thing(3), thing(4, done=4)))

    def test_by_several_steps(self):
        things = (thing(1, done=1), thing(2, wants=(1,), parent=3, done=2), thing(3, done=3),
                  thing(4, wants=(3,), parent=5, done=4), thing(5, done=5), thing(6, done=6))
        self.assert_told(undone(things, 1), (
            thing(1), thing(2, wants=(1,), parent=3), thing(3), thing(4, wants=(3,), parent=5), thing(5),
            thing(6, done=6)))
        self.assert_told(undone(things, 3), (
            *things[:2], thing(3), thing(4, wants=(3,), parent=5), thing(5), thing(6, done=6)))

    def test_by_way_of_one_that_is_not_done(self):
        things = (thing(1, done=1), thing(2, wants=(1,)), thing(3, wants=(2,), done=3))
        self.assert_told(undone(things, 1), (thing(1), thing(2, wants=(1,)), thing(3, wants=(2,))))

    def test_what_it_leans_on_stays_done(self):
        things = (thing(1, done=1), thing(2, wants=(1,), done=2), thing(3, parent=2, done=3))
        self.assert_told(undone(things, 2), replaced(things, 2, done=None))

    def test_one_that_was_not_done(self):
        things = (thing(1), thing(2, done=3))
        self.assert_told(undone(things, 1), things)
        things = (thing(1), thing(2, wants=(1,), done=3), thing(3, wants=(2,)))
        self.assert_told(undone(things, 1), replaced(things, 2, done=None))

    def test_no_thing(self):
        for things in ((), (thing(2, done=3), thing(3))):
            for number in NO_NUMBERS:
                self.assert_refused(NoThing, undone, things, number)

    def test_by_the_words(self):
        chance = random.Random(12)
        for _ in range(400):
            things = random_list(chance, chance.randrange(1, 13), share_done=0.7, share_leaning=0.2)
            number = chance.choice(numbers_of(things))
            whole = {number} | over_plainly(things, number)
            self.assert_told(undone(things, number),
                             tuple((*one[:9], None) if one[0] in whole else one for one in things))

    def test_what_is_undone_is_as_it_was(self):
        chance = random.Random(13)
        tried = 0
        for _ in range(400):
            # Without rules, what is done stays so; over what is not done yet, nothing is.
            things = tuple(replaced((one,), one[0], rule=None)[0]
                           for one in random_list(chance, chance.randrange(1, 13), share_done=0))
            for day in range(12):
                for number in numbers_of(things):
                    if open_plainly(things, number, day):
                        tried += 1
                        self.assertEqual(undone(done(things, number, day), number), things)
                        if chance.random() < 0.3:
                            things = done(things, number, day)
                            break
        self.assertGreater(tried, 1000)


class PutOffTest(DeedTest):
    def assert_put_off(self, start, due, many, told):
        things = (thing(1, start=3, due=5), thing(2, start=start, due=due, weight=2, hand="ann"), thing(3, due=9, done=9))
        if told is None:
            self.assert_refused(NoDate, put_off, things, 2, many)
        else:
            self.assert_told(put_off(things, 2, many), replaced(things, 2, start=told[0], due=told[1]))

    def test_both(self):
        for many in (0, 1, 7, -1, -5, 1000):
            self.assert_put_off(10, 20, many, (10 + many, 20 + many))
            self.assert_put_off(20, 10, many, (20 + many, 10 + many))

    def test_one_of_them(self):
        for many in (0, 1, 7, -1, -5, 1000):
            self.assert_put_off(10, None, many, (10 + many, None))
            self.assert_put_off(None, 10, many, (None, 10 + many))

    def test_neither(self):
        for many in (0, 1, -1, 36524, 36525, -36525, 10 ** 30, -10 ** 30):
            self.assert_put_off(None, None, many, (None, None))

    def test_to_the_first_day_and_one_beyond(self):
        self.assert_put_off(10, None, -10, (0, None))
        self.assert_put_off(10, None, -11, None)
        self.assert_put_off(None, 10, -10, (None, 0))
        self.assert_put_off(None, 10, -11, None)
        self.assert_put_off(10, 20, -10, (0, 10))
        self.assert_put_off(10, 20, -11, None)
        self.assert_put_off(20, 10, -10, (10, 0))
        self.assert_put_off(20, 10, -11, None)
        self.assert_put_off(0, 0, -1, None)

    def test_to_the_last_day_and_one_beyond(self):
        self.assert_put_off(24, None, 36500, (LAST_DAY, None))
        self.assert_put_off(24, None, 36501, None)
        self.assert_put_off(None, 24, 36500, (None, LAST_DAY))
        self.assert_put_off(None, 24, 36501, None)
        self.assert_put_off(20, 24, 36500, (36520, LAST_DAY))
        self.assert_put_off(20, 24, 36501, None)
        self.assert_put_off(24, 20, 36500, (LAST_DAY, 36520))
        self.assert_put_off(24, 20, 36501, None)
        self.assert_put_off(LAST_DAY, LAST_DAY, 0, (LAST_DAY, LAST_DAY))
        self.assert_put_off(LAST_DAY, LAST_DAY, 1, None)

    def test_far_beyond(self):
        for many in (10 ** 30, -10 ** 30):
            for start, due in ((5, None), (None, 5), (5, 5)):
                self.assert_put_off(start, due, many, None)

    def test_neither_rule_nor_done_moves(self):
        things = (thing(1, start=1, due=2, rule=("each", 3), done=4, wants=(2,), parent=3), thing(2, start=1, due=2), thing(3))
        self.assert_told(put_off(things, 1, 10), replaced(things, 1, start=11, due=12))

    def test_parts_do_not_move(self):
        things = (thing(1, due=2), thing(2, due=2, parent=1), thing(3, due=2, wants=(1,)))
        self.assert_told(put_off(things, 1, 10), replaced(things, 1, due=12))

    def test_no_thing_ahead_of_no_date(self):
        for things in ((), (thing(2, start=3, due=5),)):
            for number in NO_NUMBERS:
                for many in (0, 1, -6, 10 ** 30):
                    self.assert_refused(NoThing, put_off, things, number, many)

    def test_what_is_put_back_is_as_it_was(self):
        chance = random.Random(14)
        for _ in range(300):
            things = random_list(chance, chance.randrange(1, 13), last_day=LAST_DAY)
            number = chance.choice(numbers_of(things))
            many = chance.randrange(-20000, 20000)
            own = next(one for one in things if one[0] == number)
            if all(day is None or 0 <= day + many <= LAST_DAY for day in own[3:5]):
                self.assertEqual(put_off(put_off(things, number, many), number, -many), things)
            else:
                self.assert_refused(NoDate, put_off, things, number, many)


class BeyondTest(unittest.TestCase):
    """Lists that are told may have more things, and later days."""

    def test_more_things(self):
        things = tuple(thing(number, wants=(number - 1,) if number > 1 else (), due=5) for number in range(1, 41))
        self.assertIs(is_list(things), False)
        told = done(things, 1, 3)
        self.assertEqual(told, replaced(things, 1, done=3))
        self.assertEqual(undone(told, 1), things)
        self.assertEqual(put_off(things, 40, 2), replaced(things, 40, due=7))
        parts = tuple(thing(number, parent=number - 1 if number > 1 else None, done=None if number == 1 else 4,
                            due=5, rule=("each", 1)) for number in range(1, 41))
        self.assertEqual(done(parts, 1, 5)[0], thing(1, due=6, rule=("each", 1)))
        self.assertTrue(all(one[9] is None for one in done(parts, 1, 5)))

    def test_later_days(self):
        things = (thing(1), thing(2, start=40000, due=41000, rule=("each", 3)), thing(3, due=36524, rule=("each", 1)))
        self.assertEqual(done(things, 1, 40000), replaced(things, 1, done=40000))
        self.assertEqual(undone(done(things, 1, 40000), 1), things)
        self.assertEqual(done(things, 2, 40000), replaced(things, 2, done=40000))
        self.assertEqual(done(things, 3, 40000), replaced(things, 3, done=40000))
        with self.assertRaises(NotOpen):
            done(things, 2, 39999)
        with self.assertRaises(NoDate):
            put_off(things, 2, 0)
        self.assertEqual(put_off(things, 2, -5000), replaced(things, 2, start=35000, due=36000))


class DoneRulesTest(unittest.TestCase):
    def test_every_rule_on_many_days(self):
        chance = random.Random(15)
        for rule in (*RULES, ("each", 2), ("week", (1, 3)), ("month", 30), ("year", 12, 31)):
            for _ in range(40):
                due = chance.choice((chance.randrange(LAST_DAY + 1), LAST_DAY - chance.randrange(400)))
                day = min(LAST_DAY, max(0, due + chance.randrange(-400, 400)))
                start = chance.choice((None, day, chance.randrange(day + 1)))
                things = (thing(4, start=start, due=due, rule=rule, parent=7), thing(5, parent=4, done=1), thing(7))
                self.assertIs(is_list(things), True)
                self.assertEqual(done(things, 4, day), done_by_the_words(things, 4, day), (things, day))
                self.assertIs(is_list(done(things, 4, day)), True)


if __name__ == "__main__":
    unittest.main()
