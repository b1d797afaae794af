"""What can be done, and what of it is first: [0.2] (c), [0.3], [4.1], [4.2], [4.3]."""

import random
import unittest

from dodays.errors import DoError, NoThing
from dodays.opening import due_at, first_up, hindered_by, is_open, opens, overdue, share_done, weight_at
from dodays.things import is_list
from making import (
    done_plainly, leant_on_plainly, not_done_plainly, numbers_of, open_plainly, random_list, thing, under_plainly,
)


def due_plainly(things, number):
    """The least due of a thing and of those that lean on it, as the document says it."""
    own = next(one for one in things if one[0] == number)
    dues = [] if own[4] is None else [own[4]]
    for other in things:
        if other[9] is None and number in leant_on_plainly(things, other[0]):
            due = due_plainly(things, other[0])
            dues += [] if due is None else [due - 1]
    return min(dues) if dues else None


def weight_plainly(things, number):
    """The greatest weight of a thing and of all over it that are not done."""
    return max(one[2] for one in things
               if one[0] == number or one[9] is None and number in under_plainly(things, one[0]))


def random_lists(seed, many, most=12):
    """Lists of up to twelve things, as any."""
    chance = random.Random(seed)
    return [random_list(chance, chance.randrange(most + 1), share_done=chance.choice((0, 0.2, 0.5)),
                        share_leaning=chance.choice((0.1, 0.3, 0.6))) for _ in range(many)]


class OpeningTest(unittest.TestCase):
    def assert_told(self, function, things, *asked, told):
        """Ask twice, of a list; what is told is of the same kind, too."""
        self.assertIs(is_list(things), True)
        for _ in range(2):
            answer = function(things, *asked)
            self.assertEqual(answer, told, (function.__name__, things, asked))
            self.assertIs(type(answer), type(told))


class NoThingTest(unittest.TestCase):
    def test_numbers_of_no_thing(self):
        for things in ((), (thing(1),), (thing(1), thing(3, wants=(1,)), thing(4, parent=3, done=2))):
            for number in (0, 2, 5, 999, 1000, -1):
                for ask in (lambda: hindered_by(things, number), lambda: is_open(things, number, 3),
                            lambda: due_at(things, number), lambda: weight_at(things, number),
                            lambda: share_done(things, number)):
                    for _ in range(2):
                        with self.assertRaises(NoThing) as caught:
                            ask()
                        self.assertIs(type(caught.exception), NoThing)
                        self.assertIsInstance(caught.exception, DoError)

    def test_truths_are_no_numbers(self):
        things = (thing(1),)
        for ask in (hindered_by, due_at, weight_at, share_done):
            self.assertRaises(NoThing, ask, things, True)
        self.assertRaises(NoThing, is_open, things, True, 3)

    def test_none_is_refused_where_no_number_is_asked_for(self):
        self.assertEqual(opens((), 3), ())
        self.assertEqual(first_up((), 3, None), ())
        self.assertEqual(first_up((), 3, "a"), ())
        self.assertEqual(overdue((), 3), ())


class HinderedByTest(OpeningTest):
    def test_nothing(self):
        self.assert_told(hindered_by, (thing(1),), 1, told=())
        self.assert_told(hindered_by, (thing(1), thing(2, wants=(1,))), 1, told=())

    def test_wants_and_parts_that_are_not_done(self):
        things = (thing(1, parent=5), thing(2), thing(3, parent=5, done=0), thing(4, done=36524),
                  thing(5, wants=(2, 4, 6)), thing(6))
        self.assert_told(hindered_by, things, 5, told=(1, 2, 6))

    def test_all_done(self):
        things = (thing(1, done=0), thing(2, done=7, parent=3), thing(3, wants=(1,)))
        self.assert_told(hindered_by, things, 3, told=())

    def test_in_two_ways_told_once(self):
        self.assert_told(hindered_by, (thing(1, parent=2), thing(2, wants=(1,))), 2, told=(1,))

    def test_by_itself_only(self):
        things = (thing(1), thing(2, wants=(1,)), thing(3, wants=(2,)))
        self.assert_told(hindered_by, things, 3, told=(2,))
        things = (thing(1), thing(2, wants=(1,), done=4), thing(3, wants=(2,)))
        self.assert_told(hindered_by, things, 3, told=())

    def test_a_thing_done_itself(self):
        self.assert_told(hindered_by, (thing(1), thing(2, wants=(1,), done=3)), 2, told=(1,))
        self.assert_told(hindered_by, (thing(1, start=9, due=3, done=3),), 1, told=())

    def test_as_told_plainly(self):
        for things in random_lists(11, 150):
            for number in numbers_of(things):
                told = sorted(leant_on_plainly(things, number) & not_done_plainly(things))
                self.assert_told(hindered_by, things, number, told=tuple(told))


class IsOpenTest(OpeningTest):
    def assert_open(self, things, number, day, truth):
        self.assert_told(is_open, things, number, day, told=truth)
        self.assertEqual(number in opens(things, day), truth)

    def test_start(self):
        for start, truth in ((None, True), (0, True), (9, True), (10, True), (11, False), (36524, False)):
            self.assert_open((thing(1, start=start),), 1, 10, truth)
        self.assert_open((thing(1, start=0),), 1, 0, True)
        self.assert_open((thing(1, start=36524),), 1, 36524, True)
        self.assert_open((thing(1),), 1, 0, True)

    def test_done(self):
        for done in (0, 9, 10, 11, 36524):
            self.assert_open((thing(1, done=done),), 1, 10, False)
            self.assert_open((thing(1, start=3, done=done),), 1, 10, False)

    def test_wants(self):
        for done, truth in ((None, False), (0, True), (9, True), (10, True), (11, True)):
            self.assert_open((thing(1, done=done), thing(2, wants=(1,))), 2, 10, truth)
            self.assert_open((thing(1, done=done), thing(2, wants=(1,), start=10)), 2, 10, truth)
            self.assert_open((thing(1, done=done), thing(2, wants=(1,), start=11)), 2, 10, False)

    def test_parts(self):
        for done, truth in ((None, False), (0, True), (10, True)):
            self.assert_open((thing(1), thing(2, parent=1, done=done)), 1, 10, truth)
        self.assert_open((thing(1), thing(2, parent=1)), 2, 10, True)

    def test_one_of_several(self):
        things = (thing(1, done=3), thing(2), thing(3, wants=(1, 2)))
        self.assert_open(things, 3, 10, False)
        self.assert_open(done_plainly(things, 2, 4), 3, 10, True)

    def test_by_itself_only(self):
        self.assert_open((thing(1), thing(2, wants=(1,), done=4), thing(3, wants=(2,))), 3, 10, True)

    def test_due_and_rule_and_hand_do_not_matter(self):
        self.assert_open((thing(1, due=3, rule=("each", 1), hand="a"),), 1, 10, True)
        self.assert_open((thing(1, due=30),), 1, 10, True)

    def test_opens(self):
        things = (thing(1, done=0), thing(2, start=5), thing(3, start=6), thing(4, wants=(1,)), thing(5, wants=(2,)),
                  thing(6), thing(7, parent=6))
        self.assert_told(opens, things, 5, told=(2, 4, 7))
        self.assert_told(opens, things, 4, told=(4, 7))
        self.assert_told(opens, things, 6, told=(2, 3, 4, 7))
        self.assert_told(opens, (), 6, told=())
        self.assert_told(opens, (thing(1, done=0),), 6, told=())

    def test_as_told_plainly(self):
        for things in random_lists(12, 150):
            for day in (0, 3, 9):
                told = tuple(number for number in numbers_of(things) if open_plainly(things, number, day))
                self.assert_told(opens, things, day, told=told)
                for number in numbers_of(things):
                    self.assert_told(is_open, things, number, day, told=number in told)

    def test_what_can_be_done_leans_on_nothing_that_is_not_done(self):
        for things in random_lists(13, 100):
            for number in opens(things, 5):
                self.assertFalse(leant_on_plainly(things, number) & not_done_plainly(things))

    def test_something_can_be_done_some_day_until_all_is(self):
        chance = random.Random(14)
        for things in random_lists(14, 100):
            while not_done_plainly(things):
                told = opens(things, 36524)
                self.assertNotEqual(told, ())
                things = done_plainly(things, chance.choice(told), 36524)
            self.assertEqual(opens(things, 36524), ())


class DueAtTest(OpeningTest):
    def test_its_own_alone(self):
        for due in (None, 0, 7, 36524):
            self.assert_told(due_at, (thing(1, due=due),), 1, told=due)
            self.assert_told(due_at, (thing(1, due=due, done=3),), 1, told=due)

    def test_of_one_that_leans_on_it(self):
        for due, other, told in ((None, None, None), (None, 7, 6), (7, None, 7), (7, 7, 6), (6, 7, 6), (5, 7, 5),
                                 (7, 8, 7), (7, 0, -1), (None, 0, -1), (0, 36524, 0)):
            self.assert_told(due_at, (thing(1, due=due), thing(2, wants=(1,), due=other)), 1, told=told)
            self.assert_told(due_at, (thing(1), thing(2, parent=1, due=due)), 2, told=due)
            self.assert_told(due_at, (thing(1, due=other), thing(2, parent=1, due=due)), 2, told=told)

    def test_what_it_leans_on_does_not_count(self):
        self.assert_told(due_at, (thing(1, due=3), thing(2, wants=(1,), due=9)), 2, told=9)
        self.assert_told(due_at, (thing(1), thing(2, parent=1, due=3)), 1, told=None)

    def test_of_one_that_leans_in_two_ways(self):
        self.assert_told(due_at, (thing(1, parent=2), thing(2, wants=(1,), due=9)), 1, told=8)

    def test_by_several_steps(self):
        things = (thing(1), thing(2, wants=(1,)), thing(3, parent=4), thing(4, wants=(2,), due=9), thing(5, wants=(4,)))
        self.assert_told(due_at, things, 4, told=9)
        self.assert_told(due_at, things, 2, told=8)
        self.assert_told(due_at, things, 1, told=7)
        self.assert_told(due_at, things, 3, told=8)
        self.assert_told(due_at, things, 5, told=None)

    def test_the_longer_way_counts(self):
        things = (thing(1), thing(2, wants=(1,)), thing(3, wants=(2,)), thing(4, wants=(1, 3), due=9))
        self.assert_told(due_at, things, 1, told=6)

    def test_the_least_of_several(self):
        things = (thing(1, due=8), thing(2, wants=(1,), due=7), thing(3, wants=(1,), due=5), thing(4, wants=(1,)),
                  thing(5, wants=(3,), due=9))
        self.assert_told(due_at, things, 1, told=4)

    def test_a_chain_of_twelve(self):
        things = tuple(thing(number, wants=(number + 1,), due=None) for number in range(1, 12)) + (thing(12),)
        self.assert_told(due_at, things, 12, told=None)
        things = (thing(1, wants=(2,), due=20),) + things[1:]
        for number in range(1, 13):
            self.assert_told(due_at, things, number, told=21 - number)

    def test_things_done_do_not_count(self):
        self.assert_told(due_at, (thing(1), thing(2, wants=(1,), due=7, done=3)), 1, told=None)
        self.assert_told(due_at, (thing(1, due=9), thing(2, wants=(1,), due=7, done=3)), 1, told=9)
        self.assert_told(due_at, (thing(1, due=7, done=3), thing(2, parent=1)), 2, told=None)

    def test_what_leans_on_one_done_does_not_count(self):
        self.assert_told(due_at, (thing(1), thing(2, wants=(1,), done=3), thing(3, wants=(2,), due=7)), 1, told=None)
        self.assert_told(due_at, (thing(1), thing(2, wants=(1,), done=3), thing(3, wants=(2,), due=7)), 2, told=6)

    def test_of_one_done_itself_those_that_lean_on_it_count(self):
        self.assert_told(due_at, (thing(1, done=3), thing(2, wants=(1,), due=7)), 1, told=6)

    def test_as_told_plainly(self):
        for things in random_lists(15, 150):
            for number in numbers_of(things):
                self.assert_told(due_at, things, number, told=due_plainly(things, number))


class WeightAtTest(OpeningTest):
    def test_its_own_alone(self):
        for weight in range(10):
            self.assert_told(weight_at, (thing(1, weight=weight),), 1, told=weight)
            self.assert_told(weight_at, (thing(1, weight=weight, done=2),), 1, told=weight)

    def test_of_one_that_leans_on_it(self):
        for weight, other in ((0, 0), (0, 9), (9, 0), (4, 5), (5, 4), (4, 4)):
            told = max(weight, other)
            self.assert_told(weight_at, (thing(1, weight=weight), thing(2, weight=other, wants=(1,))), 1, told=told)
            self.assert_told(weight_at, (thing(1, weight=other), thing(2, weight=weight, parent=1)), 2, told=told)

    def test_what_it_leans_on_does_not_count(self):
        self.assert_told(weight_at, (thing(1, weight=8), thing(2, wants=(1,), weight=3)), 2, told=3)
        self.assert_told(weight_at, (thing(1, weight=3), thing(2, parent=1, weight=8)), 1, told=3)

    def test_by_others_too(self):
        things = (thing(1, weight=1), thing(2, wants=(1,), parent=3), thing(3, weight=2), thing(4, weight=7, wants=(3,)))
        self.assert_told(weight_at, things, 1, told=7)
        self.assert_told(weight_at, things, 2, told=7)
        self.assert_told(weight_at, things, 3, told=7)
        self.assert_told(weight_at, things, 4, told=7)

    def test_things_done_do_not_count(self):
        self.assert_told(weight_at, (thing(1, weight=1), thing(2, weight=7, wants=(1,), done=3)), 1, told=1)
        self.assert_told(weight_at, (thing(1, weight=7, done=3), thing(2, weight=1, parent=1)), 2, told=1)

    def test_what_leans_on_one_done_is_over_it_too(self):
        things = (thing(1, weight=1), thing(2, weight=9, wants=(1,), done=3), thing(3, weight=7, wants=(2,)))
        self.assert_told(weight_at, things, 1, told=7)

    def test_as_told_plainly(self):
        for things in random_lists(16, 150):
            for number in numbers_of(things):
                self.assert_told(weight_at, things, number, told=weight_plainly(things, number))


class FirstUpTest(OpeningTest):
    def test_lesser_dues_first_and_none_last(self):
        things = (thing(1), thing(2, due=9), thing(3, due=0), thing(4), thing(5, due=36524), thing(6, due=3))
        self.assert_told(first_up, things, 5, None, told=(3, 6, 2, 5, 1, 4))

    def test_a_due_below_0_is_ahead_of_all(self):
        things = (thing(1, due=0), thing(2), thing(3, wants=(2,), due=0))
        self.assert_told(first_up, things, 5, None, told=(2, 1))

    def test_due_at_counts_not_the_due(self):
        things = (thing(1, due=5), thing(2), thing(3, wants=(2,), due=5), thing(4, due=3))
        self.assert_told(first_up, things, 5, None, told=(4, 2, 1))

    def test_greater_weights_first_of_like_dues(self):
        things = (thing(1, due=5), thing(2, due=5, weight=3), thing(3, due=5, weight=9), thing(4, due=6, weight=9),
                  thing(5, weight=4), thing(6, weight=5), thing(7, due=4))
        self.assert_told(first_up, things, 5, None, told=(7, 3, 2, 1, 4, 6, 5))

    def test_weight_at_counts_not_the_weight(self):
        things = (thing(1, weight=5), thing(2, weight=1), thing(3, weight=8, wants=(2,)), thing(4, weight=6))
        self.assert_told(first_up, things, 5, None, told=(2, 4, 1))

    def test_lesser_numbers_first_of_like_ones(self):
        things = (thing(2, due=5, weight=1), thing(3, due=5, weight=1), thing(10, due=5, weight=1), thing(20), thing(30))
        self.assert_told(first_up, things, 5, None, told=(2, 3, 10, 20, 30))

    def test_only_what_can_be_done(self):
        things = (thing(1, done=2), thing(2, start=6), thing(3, start=5), thing(4, wants=(3,)), thing(5, wants=(1,)))
        self.assert_told(first_up, things, 5, None, told=(3, 5))
        self.assert_told(first_up, things, 6, None, told=(2, 3, 5))
        self.assert_told(first_up, things, 4, None, told=(5,))

    def test_hands(self):
        things = (thing(1, hand="a"), thing(2), thing(3, hand="b"), thing(4, hand="a", due=3), thing(5, hand="ab"))
        self.assert_told(first_up, things, 5, None, told=(4, 1, 2, 3, 5))
        self.assert_told(first_up, things, 5, "a", told=(4, 1, 2))
        self.assert_told(first_up, things, 5, "b", told=(2, 3))
        self.assert_told(first_up, things, 5, "ab", told=(2, 5))
        self.assert_told(first_up, things, 5, "c", told=(2,))
        self.assert_told(first_up, (thing(1, hand="a"),), 5, "b", told=())

    def test_other_hands_count_for_dues_and_weights_and_hindering(self):
        things = (thing(1, hand="a"), thing(2, hand="a"), thing(3, hand="b", wants=(2,), due=7),
                  thing(4, hand="a", wants=(3,)))
        self.assert_told(first_up, things, 5, "a", told=(2, 1))
        self.assert_told(first_up, things, 5, "b", told=())

    def test_as_told_plainly(self):
        for things in random_lists(17, 150):
            for hand in (None, "a", "b", "c"):
                ranks = []
                for own in things:
                    if open_plainly(things, own[0], 4) and (hand is None or own[8] is None or own[8] == hand):
                        due = due_plainly(things, own[0])
                        ranks.append((10 ** 6 if due is None else due, -weight_plainly(things, own[0]), own[0]))
                told = tuple(number for _, _, number in sorted(ranks))
                self.assert_told(first_up, things, 4, hand, told=told)


class OverdueTest(OpeningTest):
    def test_about_the_day(self):
        for due, told in ((None, ()), (0, (1,)), (9, (1,)), (10, ()), (11, ()), (36524, ())):
            self.assert_told(overdue, (thing(1, due=due),), 10, told=told)
        self.assert_told(overdue, (thing(1, due=0),), 0, told=())
        self.assert_told(overdue, (thing(1, due=0),), 1, told=(1,))

    def test_done(self):
        for done in (0, 9, 10, 11):
            self.assert_told(overdue, (thing(1, due=5, done=done), thing(2, due=5)), 10, told=(2,))

    def test_order(self):
        things = (thing(1, due=5), thing(2, due=3), thing(3, due=5), thing(4, due=0, weight=1), thing(5, due=3, weight=9),
                  thing(6), thing(7, due=12))
        self.assert_told(overdue, things, 10, told=(4, 2, 5, 1, 3))

    def test_its_own_due_counts_alone(self):
        things = (thing(1), thing(2, wants=(1,), due=3), thing(3, due=7, start=20), thing(4, parent=3))
        self.assert_told(overdue, things, 10, told=(2, 3))
        self.assert_told(overdue, (thing(1, due=10), thing(2, wants=(1,), due=10)), 10, told=())

    def test_as_told_plainly(self):
        for things in random_lists(18, 100):
            for day in (0, 1, 5, 10):
                late = [(own[4], own[0]) for own in things if own[9] is None and own[4] is not None and own[4] < day]
                self.assert_told(overdue, things, day, told=tuple(number for _, number in sorted(late)))


class ShareDoneTest(OpeningTest):
    def test_without_parts(self):
        self.assert_told(share_done, (thing(1),), 1, told=(0, 1))
        self.assert_told(share_done, (thing(1, done=0),), 1, told=(1, 1))
        self.assert_told(share_done, (thing(1, done=5), thing(2, wants=(1,))), 2, told=(0, 1))

    def test_with_parts(self):
        things = (thing(1), thing(2, parent=1), thing(3, parent=1, done=4), thing(4, done=2))
        self.assert_told(share_done, things, 1, told=(1, 3))
        self.assert_told(share_done, things, 2, told=(0, 1))
        self.assert_told(share_done, things, 3, told=(1, 1))

    def test_with_their_parts(self):
        things = (thing(1, parent=2, done=3), thing(2, parent=9), thing(4, parent=1, done=0), thing(5, parent=1),
                  thing(6, wants=(1,), done=3), thing(9, wants=(6,), done=1), thing(10, parent=6))
        self.assert_told(share_done, things, 9, told=(3, 5))
        self.assert_told(share_done, things, 2, told=(2, 4))
        self.assert_told(share_done, things, 1, told=(2, 3))
        self.assert_told(share_done, things, 6, told=(1, 2))

    def test_all_done(self):
        things = (thing(1, done=1), thing(2, parent=1, done=1), thing(3, parent=2, done=1))
        self.assert_told(share_done, things, 1, told=(3, 3))

    def test_what_is_wanted_is_no_part(self):
        things = (thing(1, wants=(2, 3)), thing(2), thing(3, parent=1), thing(4, wants=(1,)))
        self.assert_told(share_done, things, 1, told=(0, 2))

    def test_as_told_plainly(self):
        def whole(things, number):
            return [number] + [other for own in things if own[6] == number for other in whole(things, own[0])]

        for things in random_lists(19, 100):
            for number in numbers_of(things):
                numbers = whole(things, number)
                done = len([one for one in numbers if one not in not_done_plainly(things)])
                self.assert_told(share_done, things, number, told=(done, len(numbers)))


class BeyondTest(unittest.TestCase):
    """Lists that are told may have more things, and later days."""

    def test_many_things(self):
        things = tuple(thing(number, wants=(number - 1,) if number > 1 else (), weight=number // 40)
                       for number in range(1, 400)) + (thing(400, wants=(399,), due=40000, weight=9),)
        self.assertEqual(due_at(things, 1), 40000 - 399)
        self.assertEqual(weight_at(things, 1), 9)
        self.assertEqual(hindered_by(things, 400), (399,))
        self.assertEqual(opens(things, 0), (1,))
        self.assertEqual(first_up(things, 0, None), (1,))

    def test_many_ways_between_few_levels(self):
        things = []
        for level in range(10):
            wants = tuple(range(4 * level - 3, 4 * level + 1)) if level else ()
            things += [thing(4 * level + at, wants=wants, due=90 if level == 9 else None) for at in range(1, 5)]
        self.assertEqual(due_at(tuple(things), 1), 81)
        self.assertEqual(first_up(tuple(things), 0, None), (1, 2, 3, 4))

    def test_later_days(self):
        things = (thing(1, start=36600, due=36700), thing(2, due=36601, done=36900), thing(3, due=40000, wants=(1, 2)))
        self.assertIs(is_open(things, 1, 36599), False)
        self.assertIs(is_open(things, 1, 36600), True)
        self.assertEqual(due_at(things, 1), 36700)
        self.assertEqual(overdue(things, 50000), (1, 3))
        self.assertEqual(share_done(things, 2), (1, 1))
        self.assertEqual(first_up(things, 36600, None), (1,))

    def test_days_below_0(self):
        self.assertEqual(opens((thing(1), thing(2, start=0)), -1), (1,))
        self.assertEqual(overdue((thing(1, due=0),), -1), ())


if __name__ == "__main__":
    unittest.main()
