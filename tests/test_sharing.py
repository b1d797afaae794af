"""Lists of two hands put together: [0.2] (f), [0.3], [7.1]."""

import random
import unittest

from dodays.sharing import merged
from dodays.things import is_list
from making import FIELDS, numbers_of, random_deed, random_list, replaced, thing, under_plainly

ALL = object()


def chosen(field, was, one, other):
    """The worth of a field, each of the document's words by itself."""
    if one == other:
        return one
    if (one == was) != (other == was):
        return other if one == was else one
    if field in ("due", "done", "rule") and None in (one, other):
        return {one, other}.difference({None}).pop()
    if field in ("start", "parent", "hand") and None in (one, other):
        return None
    if field in ("start", "due", "done"):
        return sorted((one, other))[0]
    if field == "wants":
        return tuple(sorted({*one, *other}))
    if field == "rule":
        return sorted((one, other), key=repr)[1]
    return sorted((one, other))[1]


def rings_plainly(things):
    """The numbers of all that lean on themselves, by way of whatever."""
    on = {one[0]: {*one[5], *(other[0] for other in things if other[6] == one[0])} for one in things}
    for _ in things:
        on = {number: others.union(*(on[other] for other in others)) for number, others in on.items()}
    return {number for number in on if number in on[number]}


def merged_plainly(base, one, other):
    """Three lists put together, each of the document's words by itself."""
    before, mine, yours = ({own[0]: own for own in things} for things in (base, one, other))
    told = []
    for number in range(1, 1000):
        if number in before and not (number in mine and number in yours):
            continue
        if number in mine and number in yours:
            was = before.get(number, (None,) * 10)
            told.append([chosen(*four) for four in zip(FIELDS, was, mine[number], yours[number])])
        elif number in mine or number in yours:
            told.append(list(mine.get(number) or yours.get(number)))
    there = [own[0] for own in told]
    for own in told:
        own[5] = tuple([wanted for wanted in own[5] if wanted in there][:4])
        own[6] = own[6] if own[6] in there else None
        own[7] = own[7] if own[4] is not None else None
    rings = rings_plainly(told)
    return tuple((*own[:5], (), None, *own[7:]) if own[0] in rings else tuple(own) for own in told)


def random_hands(chance):
    """A base and what two hands made of it, or three lists that have nothing in common."""
    kind = chance.random()
    if kind < 0.15:
        return tuple(random_list(chance, chance.randrange(7)) for _ in range(3))
    base = random_list(chance, chance.randrange(10), share_leaning=chance.choice((0.1, 0.3)))
    one = other = base
    for _ in range(chance.randrange(15)):
        one = random_deed(chance, one)
    for _ in range(chance.randrange(15)):
        other = random_deed(chance, other)
    return () if kind < 0.3 else base, one, other


class MergedTest(unittest.TestCase):
    def assert_merged(self, base, one, other, told):
        for things in (base, one, other):
            self.assertIs(is_list(things), True, things)
        for given in ((base, one, other), (base, other, one), (base, one, other)):
            with self.subTest(given=given):
                self.assertEqual(merged(*given), told)
                self.assertEqual(repr(merged(*given)), repr(told))

    def assert_field(self, field, was, one, other, worth, **others):
        """Ask for one field of the middle one of three things, all else being the same."""
        def with_field(own):
            return (thing(1), thing(**{"number": 5, **others, field: own}), thing(9))
        base = (thing(1), thing(9)) if was is ALL else with_field(was)
        self.assert_merged(base, with_field(one), with_field(other), with_field(worth))


class FieldsTest(MergedTest):
    # Of each field four worths; a rule stands beside a due.
    WORTHS = {"text": ("a", "b", "c", "c d"), "weight": (0, 3, 5, 9), "start": (0, 4, 30, 36524), "due": (0, 4, 30, 36524),
              "wants": ((1,), (9,), (), (1, 9)), "parent": (1, 9, None, None), "hand": ("a", "b", "bb", "c"),
              "done": (0, 4, 30, 36524),
              "rule": (("each", 2), ("month", 3), ("week", (0,)), ("year", 1, 2))}

    def others(self, field):
        return {"due": 7} if field == "rule" else {}

    def test_nothing_changed(self):
        for field, worths in self.WORTHS.items():
            for worth in worths:
                self.assert_field(field, worth, worth, worth, worth, **self.others(field))

    def test_one_alone_changed(self):
        for field, worths in self.WORTHS.items():
            for was in worths:
                for own in worths:
                    self.assert_field(field, was, own, was, own, **self.others(field))

    def test_both_changed_alike(self):
        for field, worths in self.WORTHS.items():
            for was in worths:
                for own in worths:
                    self.assert_field(field, was, own, own, own, **self.others(field))

    def test_one_alone_changed_from_or_to_none(self):
        for field in ("start", "due", "parent", "rule", "hand", "done"):
            worth = self.WORTHS[field][0]
            self.assert_field(field, None, worth, None, worth, **self.others(field))
            self.assert_field(field, worth, None, worth, None, **self.others(field))
            self.assert_field(field, worth, None, None, None, **self.others(field))
            self.assert_field(field, None, worth, worth, worth, **self.others(field))

    def test_unlike_text_weight_parent_and_hand_the_greater_one(self):
        self.assert_field("text", "b", "a", "c", "c")
        self.assert_field("text", "z", "a", "ab", "ab")
        self.assert_field("text", "z", "9", "a", "a")
        self.assert_field("text", "a", "b 9", "b1", "b1")
        self.assert_field("weight", 9, 2, 3, 3)
        self.assert_field("weight", 1, 0, 2, 2)
        self.assert_field("hand", "b", "a", "c", "c")
        self.assert_field("hand", "z", "ab", "b", "b")
        self.assert_field("parent", None, 1, 9, 9)

    def test_unlike_start_due_and_done_the_lesser_one(self):
        for field in ("start", "due", "done"):
            self.assert_field(field, 5, 7, 9, 7)
            self.assert_field(field, 8, 7, 9, 7)
            self.assert_field(field, 99, 10, 9, 9)
            self.assert_field(field, None, 7, 9, 7)
            self.assert_field(field, 5, 0, 36524, 0)

    def test_unlike_with_none(self):
        for field in ("due", "done"):
            self.assert_field(field, 5, None, 9, 9)
            self.assert_field(field, 5, None, 0, 0)
        self.assert_field("rule", ("each", 1), None, ("each", 2), ("each", 2), due=7)
        self.assert_field("start", 5, None, 9, None)
        self.assert_field("start", 5, None, 0, None)
        self.assert_field("hand", "a", None, "b", None)
        self.assert_field("parent", 1, None, 9, None)

    def test_unlike_wants_all_of_both(self):
        def with_wants(wants):
            return (*map(thing, (1, 2, 3, 4)), thing(5, wants=wants))
        for was, one, other, told in (((), (1,), (2,), (1, 2)), ((1,), (), (1, 2), (1, 2)), ((1,), (2,), (3,), (2, 3)),
                                      ((1, 2), (1,), (2,), (1, 2)), ((1, 2), (1, 3), (1, 4), (1, 3, 4)),
                                      ((3,), (4,), (1, 2), (1, 2, 4)), ((1, 2), (), (3,), (3,))):
            self.assert_merged(with_wants(was), with_wants(one), with_wants(other), with_wants(told))

    def test_unlike_rules_the_greater_text(self):
        for lesser, greater in ((("each", 10), ("each", 9)), (("each", 2), ("month", 1)), (("month", 31), ("week", (0,))),
                                (("week", (6,)), ("year", 1, 1)), (("week", (0, 1)), ("week", (6,))),
                                # The blank is a lesser sign than the bracket, the comma a greater one.
                                (("week", (0, 1)), ("week", (0,))), (("week", (0, 1)), ("week", (0, 1, 6))),
                                (("year", 10, 1), ("year", 2, 9)), (("year", 1, 10), ("year", 1, 9))):
            self.assert_field("rule", ("each", 1), lesser, greater, greater, due=7)
            self.assert_field("rule", None, lesser, greater, greater, due=7)

    def test_where_base_lacks_the_thing(self):
        self.assert_field("text", ALL, "a", "b", "b")
        self.assert_field("weight", ALL, 0, 3, 3)
        self.assert_field("wants", ALL, (), (1,), (1,))
        self.assert_field("wants", ALL, (9,), (1,), (1, 9))
        self.assert_field("rule", ALL, ("each", 9), ("each", 10), ("each", 9), due=7)
        for field in ("start", "due", "done"):
            self.assert_field(field, ALL, 7, 9, 7)
        self.assert_field("hand", ALL, "a", "b", "b")
        self.assert_field("parent", ALL, 1, 9, 9)
        # There None is what was, so that the other one alone changed it.
        for field in ("start", "due", "parent", "rule", "hand", "done"):
            worth = self.WORTHS[field][0]
            self.assert_field(field, ALL, None, worth, worth, **self.others(field))
            self.assert_field(field, ALL, None, None, None, **self.others(field))

    def test_field_by_field(self):
        base = (thing(1, text="a", weight=2, due=5, hand="ann"), thing(2))
        one = (thing(1, text="b", weight=2, due=6, hand=None), thing(2, done=8))
        other = (thing(1, text="a", weight=7, due=4, hand="bob", start=3), thing(2, done=6))
        self.assert_merged(base, one, other, (thing(1, text="b", weight=7, due=4, start=3), thing(2, done=6)))


class NumbersTest(MergedTest):
    def test_no_things(self):
        self.assert_merged((), (), (), ())
        self.assert_merged((thing(1),), (), (), ())

    def test_removed_by_one(self):
        base = (thing(1), thing(2), thing(3))
        self.assert_merged(base, (thing(1), thing(3)), base, (thing(1), thing(3)))

    def test_removed_by_one_and_by_the_other(self):
        base = (thing(1), thing(2), thing(3))
        self.assert_merged(base, (thing(1), thing(3)), (thing(1), thing(2)), (thing(1),))

    def test_removed_by_both(self):
        base = (thing(1), thing(2), thing(3))
        self.assert_merged(base, (thing(1), thing(3)), (thing(1), thing(3)), (thing(1), thing(3)))
        self.assert_merged(base, (), (), ())

    def test_removed_by_one_and_changed_by_the_other(self):
        base = (thing(1), thing(2), thing(3))
        self.assert_merged(base, (thing(1), thing(3)), replaced(base, 2, text="new", done=4), (thing(1), thing(3)))

    def test_added_by_one(self):
        base = (thing(2),)
        own = thing(3, text="new", weight=4, start=5, due=6, wants=(2,), rule=("each", 1), hand="ann", done=7)
        self.assert_merged(base, (*base, own), base, (*base, own))
        self.assert_merged(base, (thing(1), *base), (*base, own), (thing(1), *base, own))
        self.assert_merged((), (own[:5] + ((),) + own[6:],), (), (own[:5] + ((),) + own[6:],))

    def test_added_by_both(self):
        one = thing(3, text="a", weight=4, start=5, due=6, rule=("each", 1), hand="ann", done=None)
        other = thing(3, text="b", weight=1, start=4, due=7, rule=None, hand="bob", done=8)
        self.assert_merged((), (one,), (other,), (
            thing(3, text="b", weight=4, start=4, due=6, rule=("each", 1), hand="bob", done=8),))
        self.assert_merged((), (one,), (one,), (one,))

    def test_rising(self):
        one = tuple(map(thing, (1, 5, 9)))
        other = tuple(map(thing, (2, 5, 7, 999)))
        self.assert_merged((), one, other, tuple(map(thing, (1, 2, 5, 7, 9, 999))))

    def test_more_than_twelve(self):
        one = tuple(map(thing, range(1, 24, 2)))
        other = tuple(map(thing, range(2, 25, 2)))
        self.assert_merged((), one, other, tuple(map(thing, range(1, 25))))


class OrderTest(MergedTest):
    def test_wants_above_four(self):
        def with_wants(wants):
            return (*map(thing, range(1, 9)), thing(10, wants=wants))
        for one, other, told in (((1, 2, 3, 4), (5, 6, 7, 8), (1, 2, 3, 4)), ((5, 6, 7, 8), (4,), (4, 5, 6, 7)),
                                 ((1, 3, 5, 7), (2, 4, 6, 8), (1, 2, 3, 4)), ((1, 2, 8), (3, 8), (1, 2, 3, 8))):
            self.assert_merged(with_wants(()), with_wants(one), with_wants(other), with_wants(told))
            self.assert_merged((), with_wants(one), with_wants(other), with_wants(told))

    def test_of_wants_above_four_those_that_are_gone_do_not_count(self):
        base = tuple(map(thing, (*range(1, 9), 10)))
        one = replaced(base, 10, wants=(1, 2, 3, 4))
        other = replaced(tuple(own for own in base if own[0] not in (2, 4)), 10, wants=(5, 6, 7, 8))
        self.assert_merged(base, one, other, replaced(tuple(own for own in base if own[0] not in (2, 4)), 10,
                                                      wants=(1, 3, 5, 6)))

    def test_wants_of_things_that_are_gone(self):
        base = (thing(1), thing(2), thing(3, wants=(2,)))
        one = (thing(1), thing(3))
        self.assert_merged(base, one, replaced(base, 3, wants=(1, 2)), (thing(1), thing(3, wants=(1,))))
        # One that the other adds wants what is gone, too.
        self.assert_merged(base, one, (*base, thing(4, wants=(1, 2, 3))), (*one, thing(4, wants=(1, 3))))

    def test_parents_that_are_gone(self):
        base = (thing(1), thing(2), thing(3))
        one = (thing(1), thing(3))
        self.assert_merged(base, one, replaced(base, 3, parent=2), one)
        self.assert_merged(base, one, (*base, thing(4, parent=2)), (*one, thing(4)))
        self.assert_merged(base, one, (*base, thing(4, parent=3)), (*one, thing(4, parent=3)))

    def test_a_rule_where_the_due_went(self):
        base = (thing(1, due=5), thing(2, due=5, rule=("each", 1)))
        one = replaced(base, 1, due=None)
        self.assert_merged(base, one, replaced(base, 1, rule=("each", 2)), one)
        # Both changed the due: it is there, and so is the rule.
        self.assert_merged(base, one, replaced(base, 1, due=6, rule=("each", 2)),
                           replaced(base, 1, due=6, rule=("each", 2)))
        one = replaced(base, 2, due=None, rule=None)
        self.assert_merged(base, one, replaced(base, 2, rule=("each", 2)), one)
        self.assert_merged(base, one, replaced(base, 2, due=6), replaced(base, 2, due=6, rule=None))


class RingsTest(MergedTest):
    def test_by_wants(self):
        base = (thing(1), thing(2), thing(3))
        self.assert_merged(base, replaced(base, 1, wants=(2, 3)), replaced(base, 2, wants=(1,)), base)

    def test_by_parents(self):
        base = (thing(1), thing(2), thing(3))
        self.assert_merged(base, replaced(base, 1, parent=2), replaced(base, 2, parent=1), base)

    def test_by_wants_and_parents(self):
        base = (thing(1), thing(2), thing(3))
        self.assert_merged(base, replaced(base, 1, wants=(2,)), replaced(base, 1, parent=2), base)

    def test_wants_and_parts_alike_are_no_ring(self):
        base = (thing(1), thing(2))
        self.assert_merged(base, replaced(base, 1, wants=(2,)), replaced(base, 2, parent=1),
                           (thing(1, wants=(2,)), thing(2, parent=1)))

    def test_only_those_that_lean_on_themselves(self):
        base = (thing(1, wants=(5,)), thing(2), thing(3, wants=(1,)), thing(4, parent=2), thing(5), thing(6, parent=3))
        one = replaced(base, 1, wants=(2, 5))
        other = replaced(base, 2, wants=(1,))
        # 3 leans on the ring, 5 and 4 are leant on by it; only 1 and 2 lean on themselves.
        self.assert_merged(base, one, other, replaced(base, 1, wants=()))

    def test_parents_of_those_outside(self):
        base = (thing(1, parent=4), thing(2), thing(3), thing(4))
        one = replaced(base, 1, wants=(2,))
        other = replaced(base, 2, wants=(1,))
        # 1 is a part of 4 no more, though 4 leans not on itself.
        self.assert_merged(base, one, other, replaced(base, 1, parent=None))

    def test_of_three_and_more(self):
        base = tuple(map(thing, (1, 2, 3, 4, 5)))
        one = replaced(replaced(base, 1, wants=(2,)), 3, wants=(4,))
        other = replaced(replaced(base, 3, parent=2), 1, parent=4)
        self.assert_merged(base, one, other, base)

    def test_two_rings(self):
        base = (thing(1), thing(2), thing(3), thing(4), thing(5, wants=(1, 3)))
        one = replaced(replaced(base, 1, wants=(2,)), 3, wants=(4,))
        other = replaced(replaced(base, 2, wants=(1,)), 4, wants=(2, 3))
        self.assert_merged(base, one, other, base)

    def test_of_things_added(self):
        one = (thing(1), thing(2, wants=(1,)), thing(3, hand="ann"))
        other = (thing(1, wants=(2,)), thing(2), thing(4))
        self.assert_merged((), one, other, (thing(1), thing(2), thing(3, hand="ann"), thing(4)))

    def test_none_by_way_of_what_is_gone(self):
        base = (thing(1), thing(2), thing(3))
        one = (thing(1, wants=(3,)), thing(3))
        other = (thing(1), thing(2, wants=(1,)), thing(3, wants=(2,)))
        self.assert_merged(base, one, other, (thing(1, wants=(3,)), thing(3)))

    def test_none_by_way_of_wants_beyond_four(self):
        base = tuple(map(thing, range(1, 8)))
        one = replaced(base, 5, wants=(1, 2, 7))
        other = replaced(replaced(base, 5, wants=(3, 4)), 7, wants=(5,))
        self.assert_merged(base, one, other, replaced(replaced(base, 5, wants=(1, 2, 3, 4)), 7, wants=(5,)))


class AnyListsTest(MergedTest):
    def test_by_the_words(self):
        chance = random.Random(31)
        rings = 0
        for _ in range(2000):
            base, one, other = random_hands(chance)
            told = merged_plainly(base, one, other)
            self.assert_merged(base, one, other, told)
            both = [own for own in one if own[0] in numbers_of(other)]
            rings += any(own[5] and not mine[5] for own in both for mine in told if own[0] == mine[0])
            if len(told) <= 12:
                self.assertIs(is_list(told), True)
            for number in numbers_of(told):
                self.assertNotIn(number, under_plainly(told, number))
        self.assertGreater(rings, 100)

    def test_what_one_alone_changed_is_so_in_the_end(self):
        chance = random.Random(32)
        for _ in range(500):
            base, one, other = random_hands(chance)
            self.assert_merged(base, one, base, one)
            self.assert_merged(base, one, one, one)
            self.assert_merged(base, other, base, other)
            self.assert_merged(base, base, base, base)

    def test_later_days_and_more_things(self):
        base = tuple(thing(number, due=40000, rule=("each", 1)) for number in range(1, 31))
        one = replaced(replaced(base, 3, due=50000), 4, done=60000)
        other = replaced(replaced(base, 3, due=45000), 5, wants=tuple(range(6, 10)))
        told = replaced(replaced(replaced(base, 3, due=45000), 4, done=60000), 5, wants=tuple(range(6, 10)))
        self.assertEqual(merged(base, one, other), told)
        self.assertEqual(merged(base, other, one), told)


if __name__ == "__main__":
    unittest.main()
