"""Plans: [0.2] (c), (d), [0.3], [5.1]."""

import itertools
import random
import unittest

from dodays.opening import first_up, opens
from dodays.planning import can_be_in_time, is_plan, late, plan
from dodays.things import is_list
from making import done_plainly, not_done_plainly, numbers_of, open_plainly, random_list, thing


def plan_plainly(things, day, many):
    """A plan, one day after the other, each of them asked so many times."""
    pairs = []
    while not_done_plainly(things):
        for _ in range(many):
            told = first_up(things, day, None)
            if told:
                pairs.append((day, told[0]))
                things = done_plainly(things, told[0], day)
        day += 1
    return tuple(pairs)


def is_plan_plainly(things, day, many, pairs):
    """Whether pairs are a plan, each of the document's words by itself."""
    days = [at for at, _ in pairs]
    do_not_fall = all(one <= other for one, other in zip(days, days[1:]))
    are_not_earlier = all(at >= day for at in days)
    are_few = all(sum(other == at for other in days) <= many for at in days)
    waiting = not_done_plainly(things)
    each_once = all([number for _, number in pairs].count(one) == 1 for one in waiting)
    no_other = all(number in waiting for _, number in pairs)
    if not (do_not_fall and are_not_earlier and are_few and each_once and no_other):
        return False
    for at, number in pairs:
        if not open_plainly(things, number, at):
            return False
        things = done_plainly(things, number, at)
    return True


def in_time_plainly(things, day):
    """Whether any order, each thing as early as it goes, keeps all dues."""
    fields = {own[0]: own for own in things}
    for order in itertools.permutations(sorted(not_done_plainly(things))):
        at = day - 1
        left = things
        for number in order:
            start, due = fields[number][3:5]
            at = at + 1 if start is None else max(at + 1, start)
            if not open_plainly(left, number, at) or due is not None and at > due:
                break
            left = done_plainly(left, number, at)
        else:
            return True
    return False


def random_lists(seed, many, least=0, most=12, last_day=9):
    """Lists of things, as any."""
    chance = random.Random(seed)
    return [random_list(chance, chance.randrange(least, most + 1), last_day=last_day,
                        share_done=chance.choice((0, 0.2, 0.5)), share_leaning=chance.choice((0.1, 0.3, 0.6)))
            for _ in range(many)]


class PlanTest(unittest.TestCase):
    def assert_plan(self, things, day, many, told):
        self.assertIs(is_list(things), True)
        for _ in range(2):
            pairs = plan(things, day, many)
            self.assertEqual(pairs, told, (things, day, many))
            self.assertIs(type(pairs), tuple)
            self.assertTrue(all(type(pair) is tuple for pair in pairs))
            self.assertIs(is_plan(things, day, many, pairs), True)

    def test_no_things(self):
        for many in (1, 2, 100):
            self.assert_plan((), 5, many, ())

    def test_all_done(self):
        self.assert_plan((thing(1, done=2), thing(2, wants=(1,), done=9, rule=("each", 1), due=3)), 5, 1, ())

    def test_one(self):
        self.assert_plan((thing(1),), 0, 1, ((0, 1),))
        self.assert_plan((thing(1, start=5),), 5, 1, ((5, 1),))
        self.assert_plan((thing(1, start=4),), 5, 1, ((5, 1),))
        self.assert_plan((thing(1, start=6),), 5, 1, ((6, 1),))
        self.assert_plan((thing(1, due=0),), 5, 1, ((5, 1),))

    def test_so_many_a_day(self):
        things = tuple(thing(number) for number in range(1, 8))
        self.assert_plan(things, 5, 1, tuple((4 + number, number) for number in range(1, 8)))
        self.assert_plan(things, 5, 2, ((5, 1), (5, 2), (6, 3), (6, 4), (7, 5), (7, 6), (8, 7)))
        self.assert_plan(things, 5, 3, ((5, 1), (5, 2), (5, 3), (6, 4), (6, 5), (6, 6), (7, 7)))
        for many in (7, 8, 10 ** 9):
            self.assert_plan(things, 5, many, tuple((5, number) for number in range(1, 8)))

    def test_what_is_first_up(self):
        things = (thing(1), thing(2, weight=4), thing(3, due=30), thing(4, due=20), thing(5, due=20, weight=1))
        self.assert_plan(things, 5, 1, ((5, 5), (6, 4), (7, 3), (8, 2), (9, 1)))
        self.assert_plan(things, 5, 4, ((5, 5), (5, 4), (5, 3), (5, 2), (6, 1)))

    def test_of_any_hand(self):
        things = (thing(1, hand="a"), thing(2, hand="b", due=3), thing(3))
        self.assert_plan(things, 5, 2, ((5, 2), (5, 1), (6, 3)))

    def test_starts_later_than_the_day(self):
        things = (thing(1, start=10), thing(2, start=7), thing(3, start=7))
        self.assert_plan(things, 5, 1, ((7, 2), (8, 3), (10, 1)))
        self.assert_plan(things, 5, 2, ((7, 2), (7, 3), (10, 1)))
        self.assert_plan(things, 8, 2, ((8, 2), (8, 3), (10, 1)))
        self.assert_plan((thing(1, start=36524), thing(2, start=36524)), 0, 1, ((36524, 1), (36525, 2)))

    def test_a_start_may_come_between(self):
        things = (thing(1, due=40), thing(2, due=50), thing(3, start=6, due=6), thing(4, due=60))
        self.assert_plan(things, 5, 1, ((5, 1), (6, 3), (7, 2), (8, 4)))

    def test_a_day_that_is_not_full_waits_for_none(self):
        things = (thing(1), thing(2, start=6), thing(3, start=6), thing(4, start=6))
        self.assert_plan(things, 5, 2, ((5, 1), (6, 2), (6, 3), (7, 4)))

    def test_what_comes_free_on_the_same_day(self):
        things = (thing(1, wants=(2,)), thing(2, wants=(3,)), thing(3), thing(4, parent=3))
        self.assert_plan(things, 5, 1, ((5, 4), (6, 3), (7, 2), (8, 1)))
        self.assert_plan(things, 5, 3, ((5, 4), (5, 3), (5, 2), (6, 1)))
        self.assert_plan(things, 5, 4, ((5, 4), (5, 3), (5, 2), (5, 1)))

    def test_what_comes_free_may_be_first(self):
        things = (thing(1, due=9), thing(2, due=3), thing(3, wants=(2,), due=4))
        self.assert_plan(things, 2, 2, ((2, 2), (2, 3), (3, 1)))

    def test_what_comes_free_has_a_later_start(self):
        things = (thing(1), thing(2, wants=(1,), start=9), thing(3, wants=(2,), start=8))
        self.assert_plan(things, 5, 3, ((5, 1), (9, 2), (9, 3)))

    def test_what_was_done_so_far_is_not_done_again(self):
        things = (thing(1, done=2), thing(2, wants=(1,)), thing(3, done=40, parent=2))
        self.assert_plan(things, 5, 2, ((5, 2),))

    def test_rules_aside(self):
        things = (thing(1, due=6, rule=("each", 1)), thing(2, wants=(1,), due=8, start=5, rule=("week", (0, 1, 2))),
                  thing(3, parent=1))
        self.assert_plan(things, 5, 1, ((5, 3), (6, 1), (7, 2)))
        self.assert_plan(things, 5, 5, ((5, 3), (5, 1), (5, 2)))

    def test_dues_of_what_is_done_do_not_count(self):
        things = (thing(1), thing(2), thing(3, wants=(2,), due=3, done=1))
        self.assert_plan(things, 5, 1, ((5, 1), (6, 2)))

    def test_as_told_plainly(self):
        for things in random_lists(21, 120):
            for day, many in ((0, 1), (4, 1), (3, 2), (0, 3), (20, 5)):
                self.assert_plan(things, day, many, plan_plainly(things, day, many))

    def test_all_each_once_when_it_can_be_the_first_one_always(self):
        for things in random_lists(22, 60):
            for many in (1, 2, 4):
                left = things
                for at, number in plan(things, 2, many):
                    self.assertIn(number, opens(left, at))
                    self.assertEqual(first_up(left, at, None)[0], number)
                    left = done_plainly(left, number, at)
                self.assertEqual(not_done_plainly(left), set())
                numbers = [number for _, number in plan(things, 2, many)]
                self.assertEqual(sorted(numbers), sorted(not_done_plainly(things)))

    def test_in_time_if_it_can_be_one_a_day(self):
        seen = {True: 0, False: 0}
        for things in random_lists(23, 300, 2, 6, last_day=12):
            can = in_time_plainly(things, 2)
            seen[can] += len(not_done_plainly(things)) > 2
            self.assertEqual(late(things, plan(things, 2, 1)) == (), can, things)
            if can:
                for many in (2, 3):
                    self.assertEqual(late(things, plan(things, 2, many)), (), things)
        self.assertGreater(min(seen.values()), 40)


class LateTest(unittest.TestCase):
    def assert_late(self, things, pairs, told):
        for _ in range(2):
            numbers = late(things, pairs)
            self.assertEqual(numbers, told, (things, pairs))
            self.assertIs(type(numbers), tuple)

    def test_about_the_due(self):
        for at, told in ((0, ()), (6, ()), (7, ()), (8, (1,)), (36524, (1,))):
            self.assert_late((thing(1, due=7),), ((at, 1),), told)
        self.assert_late((thing(1, due=0),), ((0, 1),), ())
        self.assert_late((thing(1, due=0),), ((1, 1),), (1,))

    def test_without_a_due(self):
        self.assert_late((thing(1), thing(2, wants=(1,), due=3)), ((9, 1),), ())

    def test_no_pairs(self):
        self.assert_late((), (), ())
        self.assert_late((thing(1, due=0),), (), ())

    def test_rising_whatever_their_order(self):
        things = (thing(1, due=3), thing(2, due=2), thing(3, due=9), thing(4, due=1), thing(10, due=0), thing(20, due=0))
        self.assert_late(things, ((5, 20), (5, 10), (5, 4), (6, 3), (6, 2), (7, 1)), (1, 2, 4, 10, 20))

    def test_only_those_in_the_pairs(self):
        self.assert_late((thing(1, due=1), thing(2, due=1)), ((5, 2),), (2,))

    def test_said_twice_told_once(self):
        self.assert_late((thing(1, due=3),), ((5, 1), (6, 1)), (1,))
        self.assert_late((thing(1, due=5),), ((5, 1), (6, 1)), (1,))
        self.assert_late((thing(1, due=5),), ((6, 1), (5, 1)), (1,))

    def test_of_a_thing_done_and_of_no_thing(self):
        self.assert_late((thing(1, due=3, done=2),), ((5, 1),), (1,))
        self.assert_late((thing(1, due=3),), ((5, 2), (5, 1)), (1,))

    def test_of_plans(self):
        things = (thing(1, due=5), thing(2, due=5), thing(3, due=6), thing(4, due=9))
        self.assert_late(things, plan(things, 5, 1), (2, 3))
        self.assert_late(things, plan(things, 5, 2), ())


class IsPlanTest(unittest.TestCase):
    THINGS = (thing(1, done=2), thing(2, start=6), thing(3, wants=(1, 2)), thing(4), thing(5, parent=4, due=9))

    def assert_told(self, things, day, many, pairs, truth):
        for _ in range(2):
            self.assertIs(is_plan(things, day, many, pairs), truth, (things, day, many, pairs))

    def test_the_plan_itself(self):
        pairs = plan(self.THINGS, 5, 1)
        self.assertEqual(pairs, ((5, 5), (6, 2), (7, 3), (8, 4)))
        self.assert_told(self.THINGS, 5, 1, pairs, True)

    def test_other_orders_and_days_left_out(self):
        for pairs in (((6, 2), (7, 3), (8, 5), (9, 4)), ((5, 5), (6, 4), (7, 2), (8, 3)),
                      ((100, 5), (200, 4), (300, 2), (36600, 3)), ((5, 5), (7, 2), (9, 4), (12, 3))):
            self.assert_told(self.THINGS, 5, 1, pairs, True)

    def test_pairs_exchanged(self):
        for pairs in (((6, 2), (5, 5), (7, 3), (8, 4)), ((5, 5), (6, 2), (8, 4), (7, 3)),
                      ((5, 5), (6, 3), (7, 2), (8, 4)), ((5, 4), (6, 2), (7, 3), (8, 5)),
                      ((5, 2), (6, 5), (7, 3), (8, 4))):
            self.assert_told(self.THINGS, 5, 1, pairs, False)

    def test_days_fall(self):
        things = (thing(1), thing(2), thing(3))
        self.assert_told(things, 5, 3, ((5, 1), (7, 2), (6, 3)), False)
        self.assert_told(things, 5, 3, ((7, 1), (6, 2), (5, 3)), False)
        self.assert_told(things, 5, 3, ((6, 1), (7, 2), (7, 3)), True)

    def test_pairs_left_out(self):
        pairs = plan(self.THINGS, 5, 1)
        for at in range(4):
            self.assert_told(self.THINGS, 5, 1, pairs[:at] + pairs[at + 1:], False)
        self.assert_told(self.THINGS, 5, 1, (), False)
        self.assert_told((thing(1),), 5, 1, (), False)

    def test_pairs_said_twice(self):
        pairs = plan(self.THINGS, 5, 1)
        for at in range(4):
            self.assert_told(self.THINGS, 5, 2, pairs[:at + 1] + pairs[at:], False)
            self.assert_told(self.THINGS, 5, 2, pairs + ((20, pairs[at][1]),), False)
        self.assert_told(self.THINGS, 5, 1, pairs[:3] + (pairs[2],), False)

    def test_moved_to_an_earlier_day(self):
        self.assert_told(self.THINGS, 5, 2, ((5, 5), (5, 2), (7, 3), (8, 4)), False)
        self.assert_told(self.THINGS, 5, 2, ((4, 5), (6, 2), (7, 3), (8, 4)), False)
        self.assert_told(self.THINGS, 4, 2, ((4, 5), (6, 2), (7, 3), (8, 4)), True)
        self.assert_told(self.THINGS, 5, 2, ((5, 5), (6, 2), (6, 3), (8, 4)), True)

    def test_moved_to_a_later_day(self):
        self.assert_told(self.THINGS, 5, 1, ((5, 5), (6, 2), (7, 3), (80, 4)), True)
        self.assert_told(self.THINGS, 5, 1, ((5, 5), (6, 2), (9, 3), (8, 4)), False)

    def test_so_many_a_day_at_the_most(self):
        things = (thing(1), thing(2), thing(3), thing(4))
        for many, pairs, truth in ((1, ((5, 1), (5, 2), (6, 3), (7, 4)), False),
                                   (2, ((5, 1), (5, 2), (6, 3), (7, 4)), True),
                                   (2, ((5, 1), (5, 2), (6, 3), (6, 4)), True),
                                   (2, ((5, 1), (6, 2), (6, 3), (6, 4)), False),
                                   (3, ((5, 1), (6, 2), (6, 3), (6, 4)), True),
                                   (3, ((5, 1), (5, 2), (5, 3), (5, 4)), False),
                                   (4, ((5, 1), (5, 2), (5, 3), (5, 4)), True),
                                   (9, ((5, 1), (6, 2), (7, 3), (8, 4)), True)):
            self.assert_told(things, 5, many, pairs, truth)

    def test_on_the_same_day_what_is_ahead_is_done(self):
        things = (thing(1), thing(2, wants=(1,)), thing(3, parent=1))
        self.assert_told(things, 5, 3, ((5, 3), (5, 1), (5, 2)), True)
        for pairs in itertools.permutations(((5, 3), (5, 1), (5, 2))):
            self.assert_told(things, 5, 3, pairs, pairs == ((5, 3), (5, 1), (5, 2)))

    def test_of_things_that_are_done(self):
        self.assert_told((thing(1, done=2),), 5, 1, ((5, 1),), False)
        self.assert_told((thing(1, done=2),), 5, 1, (), True)
        self.assert_told((thing(1, done=2), thing(2)), 5, 1, ((5, 2), (6, 1)), False)
        self.assert_told((thing(1, done=2), thing(2)), 5, 1, ((5, 1), (6, 2)), False)

    def test_of_numbers_of_no_thing(self):
        for number in (0, 2, 3, 999, 1000, -1):
            self.assert_told((thing(1),), 5, 1, ((5, number),), False)
            self.assert_told((thing(1),), 5, 1, ((5, 1), (6, number)), False)
            self.assert_told((thing(1),), 5, 1, ((5, number), (6, 1)), False)
            self.assert_told((), 5, 1, ((5, number),), False)

    def test_no_things(self):
        self.assert_told((), 5, 1, (), True)

    def test_what_is_not_first_up_or_is_late_may_be_planned(self):
        self.assert_told((thing(1, due=3), thing(2, due=9)), 2, 1, ((2, 2), (50, 1)), True)

    def test_rules_aside(self):
        things = (thing(1, due=3, rule=("each", 1)), thing(2, wants=(1,), due=3, rule=("each", 1)))
        self.assert_told(things, 2, 2, ((2, 1), (2, 2)), True)
        self.assert_told(things, 2, 2, ((2, 1), (2, 2), (3, 1)), False)

    def test_as_told_plainly(self):
        chance = random.Random(24)
        seen = {True: 0, False: 0}
        for things in random_lists(24, 400, 1, 6):
            many = chance.choice((1, 2, 3))
            pairs = list(plan(things, 3, many))
            for _ in range(chance.randrange(3)):
                if not pairs:
                    break
                at = chance.randrange(len(pairs))
                day, number = pairs[at]
                deed = chance.randrange(5)
                if deed == 0:
                    other = chance.randrange(len(pairs))
                    pairs[at], pairs[other] = pairs[other], pairs[at]
                elif deed == 1:
                    other = chance.randrange(len(pairs))
                    pairs[at], pairs[other] = (day, pairs[other][1]), (pairs[other][0], number)
                elif deed == 2:
                    pairs[at] = (max(0, day + chance.choice((-2, -1, 1, 2))), number)
                elif deed == 3:
                    pairs[at:] = [(later + 1, other) for later, other in pairs[at:]]
                else:
                    pairs[at] = (day, chance.choice(numbers_of(things)))
            truth = is_plan_plainly(things, 3, many, tuple(pairs))
            seen[truth] += 1
            self.assert_told(things, 3, many, tuple(pairs), truth)
        self.assertGreater(min(seen.values()), 80)


class CanBeInTimeTest(unittest.TestCase):
    def assert_told(self, things, day, truth):
        self.assertIs(is_list(things), True)
        for _ in range(2):
            self.assertIs(can_be_in_time(things, day), truth, (things, day))

    def test_no_things(self):
        self.assert_told((), 5, True)
        self.assert_told((thing(1, due=3, done=9),), 5, True)

    def test_one(self):
        for due, truth in ((None, True), (4, False), (5, True), (6, True)):
            self.assert_told((thing(1, due=due),), 5, truth)

    def test_dues_that_can_and_just_can_not_be_kept(self):
        self.assert_told((thing(1, due=7), thing(2, due=6), thing(3, due=5)), 5, True)
        self.assert_told((thing(1, due=7), thing(2, due=6), thing(3, due=5)), 6, False)
        self.assert_told((thing(1, due=6), thing(2, due=6), thing(3, due=6)), 5, False)
        self.assert_told((thing(1, due=6), thing(2, due=6), thing(3, due=6)), 4, True)
        self.assert_told((thing(1, due=6), thing(2, due=6), thing(3)), 5, True)

    def test_what_is_leant_on_must_be_ahead(self):
        things = (thing(1, wants=(2,), due=6), thing(2), thing(3, due=7))
        self.assert_told(things, 5, True)
        self.assert_told(things, 6, False)
        things = (thing(1, wants=(2,), due=6), thing(2, due=9, parent=4), thing(3, due=5), thing(4))
        self.assert_told(things, 5, False)
        self.assert_told(things, 4, True)

    def test_starts_that_hinder(self):
        self.assert_told((thing(1, start=7, due=6),), 5, False)
        self.assert_told((thing(1, start=7, due=7),), 5, True)
        self.assert_told((thing(1, start=7, due=7), thing(2, start=7, due=7)), 5, False)
        self.assert_told((thing(1, start=7, due=7), thing(2, start=6, due=8), thing(3, start=6, due=8)), 5, True)
        self.assert_told((thing(1), thing(2, wants=(1,), due=7), thing(3, parent=1, start=6)), 5, False)
        self.assert_told((thing(1), thing(2, wants=(1,), due=8), thing(3, parent=1, start=6)), 5, True)

    def test_days_left_out(self):
        self.assert_told((thing(1, start=9, due=9), thing(2, start=20, due=20), thing(3, start=36524, due=36524)), 5,
                         True)
        # 2 wants 1 and both must be done from 9 on, whatever is done ahead.
        self.assert_told((thing(1, start=9), thing(2, wants=(1,), due=9)), 5, False)
        self.assert_told((thing(1, start=9), thing(2, wants=(1,), due=10)), 5, True)

    def test_one_without_due_may_wait(self):
        self.assert_told((thing(1, weight=9), thing(2, due=5)), 5, True)

    def test_dues_of_what_is_done_do_not_count(self):
        self.assert_told((thing(1), thing(2, wants=(1,), due=3, done=1)), 5, True)
        self.assert_told((thing(1, done=4), thing(2, wants=(1,), due=5)), 5, True)
        self.assert_told((thing(1), thing(2, wants=(1,), done=3), thing(3, wants=(2,), due=5)), 5, True)

    def test_as_told_plainly(self):
        seen = {True: 0, False: 0}
        for things in random_lists(25, 300, 2, 6, last_day=12):
            for day in (0, 3):
                truth = in_time_plainly(things, day)
                seen[truth] += len(not_done_plainly(things)) > 2
                self.assert_told(things, day, truth)
        self.assertGreater(min(seen.values()), 80)


class BeyondTest(unittest.TestCase):
    """Lists that are told may have more things, and later days; a number may be somewhat beyond its bounds."""

    def test_more_things(self):
        things = tuple(thing(number, wants=(number - 1,) if number > 1 else (), due=41000) for number in range(1, 61))
        pairs = plan(things, 40000, 1)
        self.assertEqual(pairs, tuple((39999 + number, number) for number in range(1, 61)))
        self.assertIs(is_plan(things, 40000, 1, pairs), True)
        self.assertIs(can_be_in_time(things, 40941), True)
        self.assertIs(can_be_in_time(things, 40942), False)

    def test_later_days(self):
        things = (thing(1, start=40000, due=40001), thing(2, wants=(1,), due=40001))
        self.assertEqual(plan(things, 0, 1), ((40000, 1), (40001, 2)))
        self.assertIs(can_be_in_time(things, 0), True)
        self.assertEqual(late(things, ((40001, 1), (40002, 2))), (2,))

    def test_none_a_day(self):
        things = (thing(1), thing(2))
        for many in (0, -1):
            self.assertIsInstance(plan(things, 5, many), tuple)
            self.assertIs(is_plan(things, 5, many, ((5, 1), (6, 2))), False)
            self.assertIs(is_plan((), 5, many, ()), True)

    def test_days_below_0(self):
        self.assertEqual(plan((thing(1), thing(2, start=0)), -2, 1), ((-2, 1), (0, 2)))


if __name__ == "__main__":
    unittest.main()
