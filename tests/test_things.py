"""Lists, and what leans on what: [0.3], [0.6], [3.1]."""

import copy
import random
import unittest

from any_things import nested, odd_things
from dodays.things import is_list, leans_on, over, under, with_worth
from making import RULES, leant_on_plainly, numbers_of, random_list, thing, under_plainly

FIELDS = ("number", "text", "weight", "start", "due", "wants", "parent", "rule", "hand", "done")
OTHER_KINDS = (True, False, 1.5, b"a", -10 ** 30, 10 ** 30, [], [1], ["a"], ((),), ([],), (None,), ("a",), ((1,),),
               nested(1, 30, tuple), nested(1, 30, list), nested("a", 30, tuple), nested(None, 30, list),
               {}, "A", "\n", " ", "", "-")


class IsListTest(unittest.TestCase):
    def assert_told(self, things, truth):
        before = copy.deepcopy(things)
        with self.subTest(things=things):
            self.assertIs(is_list(things), truth)
            self.assertIs(is_list(things), truth)
            self.assertEqual(things, before)

    def assert_field(self, field, worths, truth, **others):
        """Ask of a list in which the middle one of three things has these worths."""
        for worth in worths:
            own = thing(**{"number": 5, **others, field: worth})
            self.assert_told((thing(3), own, thing(7)), truth)

    def test_how_many(self):
        for many in range(13):
            self.assert_told(tuple(thing(number) for number in range(1, many + 1)), True)
        for many in (13, 14, 40):
            self.assert_told(tuple(thing(number) for number in range(1, many + 1)), False)

    def test_number(self):
        for number in (1, 2, 500, 998, 999):
            self.assert_told((thing(number),), True)
        for number in (0, -1, 1000, 1001, 10 ** 30, True, False, None, "1", "", (), (1,), [1]):
            self.assert_told((thing(number),), False)

    def test_text(self):
        self.assert_field("text", ("a", "0", "z", "9", "a" * 20, "a b", "a b c", "to do 2 of 3", "7 7",
                                   "abcdefghijklmnopqrst", "uvwxyz0123456789", "a " * 9 + "bc"), True)

    def test_text_of_each_sign(self):
        for sign in "abcdefghijklmnopqrstuvwxyz0123456789":
            self.assert_field("text", (sign, sign + sign, f"{sign} or {sign}"), True)

    def test_text_of_no_signs_or_too_many(self):
        self.assert_field("text", ("", "a" * 21, "a" * 22, "a " * 10 + "b"), False)

    def test_text_with_blanks_that_may_not_be(self):
        self.assert_field("text", (" ", "  ", " a", "a ", " a ", "a  b", "a   b", "a b  c", "a" * 19 + " ",
                                   " " + "a" * 19), False)

    def test_text_of_other_signs(self):
        self.assert_field("text", [f"a{sign}b" for sign in map(chr, range(128))
                                   if sign not in "abcdefghijklmnopqrstuvwxyz0123456789 "], False)
        self.assert_field("text", ("A", "a\n", "\na", "a\tb", "\u00e4", "a\u00a0b", "\u0661", "\u00df"), False)

    def test_weight(self):
        self.assert_field("weight", range(10), True)
        self.assert_field("weight", (-2, -1, 10, 11), False)

    def test_days(self):
        for field in ("start", "due", "done"):
            self.assert_field(field, (None, 0, 1, 9000, 36523, 36524), True)
            self.assert_field(field, (-2, -1, 36525, 36526, 10 ** 30), False)

    def test_wants(self):
        four = (thing(1), thing(2), thing(3), thing(4), thing(9))
        for wants in ((), (1,), (9,), (1, 2), (1, 9), (2, 3, 4), (1, 2, 3, 4), (1, 3, 4, 9)):
            self.assert_told(four + (thing(10, wants=wants),), True)
        for wants in ((2, 1), (1, 1), (1, 2, 2), (1, 3, 2), (9, 4, 3, 1), (1, 2, 3, 4, 9), (9, 9, 9, 9, 9)):
            self.assert_told(four + (thing(10, wants=wants),), False)

    def test_wants_of_no_thing_or_itself(self):
        self.assert_field("wants", ((3,), (7,), (3, 7)), True)
        self.assert_field("wants", ((4,), (3, 4), (3, 4, 7), (0,), (-1,), (1000,), (3, 1000), (5,), (3, 5)), False)
        self.assert_told((thing(1, wants=(1,)),), False)

    def test_wants_of_other_kinds(self):
        self.assert_field("wants", (None, 3, "3", "", [], [3], (True,), (None,), ("3",), ((3,),), ([3],), (3, None)),
                          False)
        self.assert_told((thing(1), thing(2, wants=(True,))), False)

    def test_parent(self):
        self.assert_field("parent", (None, 3, 7), True)
        self.assert_field("parent", (0, 1, 4, 8, 999, 1000, -1, 5, "3", "", (), (3,), [3], [], True, False), False)
        self.assert_told((thing(1, parent=1),), False)
        self.assert_told((thing(1), thing(2, parent=True)), False)
        self.assert_told((thing(1, parent=0),), False)

    def test_rule(self):
        for due in (0, 5, 36524):
            self.assert_field("rule", (None, *RULES), True, due=due)
            self.assert_field("rule", (("each", 0), ("each", 1000), ("week", ()), ("month", 32), ("year", 2, 30),
                                       ("each", True), ["each", 1], "each", (), 1, ("day", 1)), False, due=due)

    def test_rule_without_due(self):
        self.assert_field("rule", RULES, False)
        self.assert_field("rule", RULES, False, start=5, done=5)
        self.assert_field("rule", (None,), True)

    def test_hand(self):
        self.assert_field("hand", (None, "a", "z", "ab", "abc", "abcd", "none"), True)
        self.assert_field("hand", ("", "abcde", "A", "aB", "a1", "1", "a b", " a", "a ", "a-", "a\n", "\u00e4"), False)

    def test_each_field_of_other_kinds(self):
        for field in FIELDS:
            for worth in OTHER_KINDS:
                self.assert_field(field, (worth,), False, **({} if field == "due" else {"due": 5}))

    def test_none_in_place_of_each_field(self):
        for field in FIELDS:
            self.assert_field(field, (None,), field in ("start", "due", "parent", "rule", "hand", "done"))

    def test_truths_in_place_of_each_field(self):
        for field in FIELDS:
            for truth in (True, False):
                self.assert_told((thing(**{"number": 1, field: truth}),), False)
                self.assert_told((thing(1), thing(**{"number": 2, field: truth})), False)

    def test_how_many_fields(self):
        own = thing(1, due=3)
        self.assert_told((own,), True)
        for many in range(10):
            self.assert_told((own[:many],), False)
            self.assert_told((own[many + 1:],), False)
        self.assert_told((own + (None,),), False)
        self.assert_told((own + own,), False)

    def test_lists_are_no_tuples(self):
        self.assert_told([], False)
        self.assert_told([thing(1)], False)
        self.assert_told((list(thing(1)),), False)
        self.assert_told((thing(1), list(thing(2))), False)
        self.assert_told(((thing(1),),), False)
        self.assert_told(thing(1), False)

    def test_numbers_rise(self):
        for numbers in ((1, 2, 3), (1, 999), (7, 8, 100)):
            self.assert_told(tuple(map(thing, numbers)), True)
        for numbers in ((2, 1), (1, 1), (1, 3, 2), (1, 2, 2), (3, 2, 1), (999, 1), (1, 2, 1)):
            self.assert_told(tuple(map(thing, numbers)), False)

    def test_things_done_whatever_they_lean_on(self):
        self.assert_told((thing(1), thing(2, wants=(1,), done=4), thing(3, parent=2)), True)
        self.assert_told((thing(1, start=9, due=3, done=1),), True)

    def test_rings_of_two(self):
        self.assert_told((thing(1, wants=(2,)), thing(2, wants=(1,))), False)
        self.assert_told((thing(1, parent=2), thing(2, parent=1)), False)
        # The part wants the whole, which leans on its part.
        self.assert_told((thing(1), thing(2, wants=(1,), parent=1)), False)
        self.assert_told((thing(1, wants=(2,), parent=2), thing(2)), False)

    def test_wants_and_parts_alike_are_no_ring(self):
        self.assert_told((thing(1, wants=(2,)), thing(2, parent=1)), True)
        self.assert_told((thing(1, parent=2), thing(2, wants=(1,))), True)

    def test_rings_of_three(self):
        self.assert_told((thing(1, wants=(2,)), thing(2, wants=(3,)), thing(3, wants=(1,))), False)
        self.assert_told((thing(1, parent=2), thing(2, parent=3), thing(3, parent=1)), False)
        self.assert_told((thing(1, wants=(2,)), thing(2, wants=(3,)), thing(3, parent=None), thing(4)), True)
        # 1 leans on its part 2, that on 3, that on 1.
        self.assert_told((thing(1), thing(2, parent=1, wants=(3,)), thing(3, wants=(1,))), False)
        # 1 wants 2, which leans on its part 3, which leans on its part 1.
        self.assert_told((thing(1, wants=(2,), parent=3), thing(2), thing(3, parent=2)), False)

    def test_rings_beside_things_in_none(self):
        ring = (thing(4, wants=(5,)), thing(5, wants=(6,)), thing(6, wants=(4,)))
        self.assert_told((thing(1), thing(2, wants=(1,))) + ring + (thing(7, wants=(1, 2)),), False)
        self.assert_told((thing(1, wants=(4,)),) + ring, False)
        self.assert_told(ring + (thing(9, parent=4),), False)

    def test_a_ring_of_twelve(self):
        chain = tuple(thing(number, wants=(number + 1,)) for number in range(1, 12))
        self.assert_told(chain + (thing(12),), True)
        self.assert_told(chain + (thing(12, wants=(1,)),), False)
        self.assert_told(chain + (thing(12, wants=(6,)),), False)

    def test_four_ways_to_one_are_no_ring(self):
        self.assert_told((thing(1), thing(2, wants=(1,)), thing(3, wants=(1,), parent=4), thing(4, wants=(1, 2, 3))),
                         True)

    def test_any_things(self):
        self.assert_told((), True)
        for odd in odd_things():
            if odd != ():
                self.assert_told(odd, False)
            self.assert_told((odd,), False)
            self.assert_told((thing(1), odd), False)
            self.assert_told((odd,) * 10, False)
        for deep in range(1, 35):
            self.assert_told(nested(thing(1), deep, tuple), deep == 1)
            self.assert_told(nested((thing(1),), deep, list), False)
            self.assert_told(nested((), deep, tuple), False)

    def test_lists_made_without_rings(self):
        chance = random.Random(3)
        for _ in range(300):
            self.assert_told(random_list(chance, chance.randrange(13)), True)

    def test_one_more_lean_and_whether_it_makes_a_ring(self):
        chance = random.Random(4)
        rings = 0
        for _ in range(600):
            things = list(random_list(chance, chance.randrange(2, 8), share_leaning=0.3))
            at = chance.randrange(len(things))
            own = things[at]
            other = chance.choice(numbers_of(things))
            is_ring = other == own[0] or own[0] in under_plainly(things, other)
            is_by_part = chance.random() < 0.5
            if is_by_part:
                # Of the part, the whole becomes its parent in place of the one it has.
                whole = numbers_of(things).index(other)
                things[at] = (*own[:6], None, *own[7:])
                is_ring = other == own[0] or other in under_plainly(things, own[0])
                things[at] = (*own[:6], things[whole][0], *own[7:])
            elif len(own[5]) < 4:
                things[at] = (*own[:5], tuple(sorted({*own[5], other})), *own[6:])
            else:
                continue
            rings += is_ring
            self.assert_told(tuple(things), not is_ring)
        self.assertTrue(100 < rings < 500, rings)


class LeaningTest(unittest.TestCase):
    def assert_leaning(self, things, number, on, below, above):
        self.assertIs(is_list(things), True)
        with self.subTest(things=things, number=number):
            for _ in range(2):
                self.assertEqual(leans_on(things, number), on)
                self.assertEqual(under(things, number), below)
                self.assertEqual(over(things, number), above)
            for function in (leans_on, under, over):
                self.assertIs(type(function(things, number)), tuple)

    def test_alone(self):
        self.assert_leaning((thing(1),), 1, (), (), ())
        self.assert_leaning((thing(1), thing(2), thing(999)), 2, (), (), ())

    def test_wants(self):
        things = (thing(1), thing(2), thing(3, wants=(1, 2)))
        self.assert_leaning(things, 3, (1, 2), (1, 2), ())
        self.assert_leaning(things, 1, (), (), (3,))
        self.assert_leaning(things, 2, (), (), (3,))

    def test_parts(self):
        things = (thing(1, parent=2), thing(2), thing(3, parent=2))
        self.assert_leaning(things, 2, (1, 3), (1, 3), ())
        self.assert_leaning(things, 1, (), (), (2,))
        self.assert_leaning(things, 3, (), (), (2,))

    def test_both_rising(self):
        things = (thing(1, parent=5), thing(2), thing(3, parent=5), thing(4), thing(5, wants=(2, 4, 6)), thing(6))
        self.assert_leaning(things, 5, (1, 2, 3, 4, 6), (1, 2, 3, 4, 6), ())

    def test_in_two_ways_told_once(self):
        things = (thing(1, parent=2), thing(2, wants=(1, 3)), thing(3, parent=2))
        self.assert_leaning(things, 2, (1, 3), (1, 3), ())
        self.assert_leaning(things, 1, (), (), (2,))
        things = (thing(1), thing(2, wants=(1,)), thing(3, wants=(1,)), thing(4, wants=(1, 2, 3)))
        self.assert_leaning(things, 4, (1, 2, 3), (1, 2, 3), ())
        self.assert_leaning(things, 1, (), (), (2, 3, 4))

    def test_chains(self):
        things = (thing(1, wants=(2,)), thing(2, wants=(3,)), thing(3, wants=(4,)), thing(4), thing(9))
        self.assert_leaning(things, 1, (2,), (2, 3, 4), ())
        self.assert_leaning(things, 2, (3,), (3, 4), (1,))
        self.assert_leaning(things, 3, (4,), (4,), (1, 2))
        self.assert_leaning(things, 4, (), (), (1, 2, 3))
        self.assert_leaning(things, 9, (), (), ())

    def test_chains_of_wants_and_parts(self):
        things = (thing(1, parent=3), thing(2, wants=(3,)), thing(3), thing(4, wants=(5,)), thing(5, parent=1),
                  thing(6, parent=4))
        self.assert_leaning(things, 2, (3,), (1, 3, 5), ())
        self.assert_leaning(things, 3, (1,), (1, 5), (2,))
        self.assert_leaning(things, 5, (), (), (1, 2, 3, 4))
        self.assert_leaning(things, 4, (5, 6), (5, 6), ())

    def test_what_shares_a_want_or_a_parent_is_neither_under_nor_over(self):
        things = (thing(1), thing(2, wants=(1,)), thing(3, wants=(1,)), thing(4, parent=3), thing(5, parent=3))
        self.assert_leaning(things, 2, (1,), (1,), ())
        self.assert_leaning(things, 4, (), (), (3,))

    def test_things_done_count_too(self):
        things = (thing(1, done=4), thing(2, wants=(1,), done=4), thing(3, wants=(2,)))
        self.assert_leaning(things, 3, (2,), (1, 2), ())
        self.assert_leaning(things, 1, (), (), (2, 3))

    def test_as_told_plainly(self):
        chance = random.Random(5)
        for _ in range(200):
            things = random_list(chance, chance.randrange(1, 13))
            below = {number: under_plainly(things, number) for number in numbers_of(things)}
            for number in below:
                above = tuple(sorted(other for other in below if number in below[other]))
                self.assert_leaning(things, number, tuple(sorted(leant_on_plainly(things, number))),
                                    tuple(sorted(below[number])), above)

    def test_more_things_and_later_days(self):
        things = tuple(thing(number, wants=(number - 1,) if number > 1 else (), due=40000, done=50000)
                       for number in range(1, 401))
        self.assertIs(is_list(things), False)
        self.assertEqual(leans_on(things, 400), (399,))
        self.assertEqual(under(things, 400), tuple(range(1, 400)))
        self.assertEqual(over(things, 1), tuple(range(2, 401)))


class WithWorthTest(unittest.TestCase):
    def test_only_this_field_of_this_thing(self):
        things = (thing(1), thing(2), thing(3))
        for field, name in enumerate(FIELDS[1:], start=1):
            told = with_worth(things, 2, field, 8)
            self.assertEqual(told, (thing(1), thing(**{"number": 2, name: 8}), thing(3)))


if __name__ == "__main__":
    unittest.main()
