"""Things added, removed and changed, wants and parents: [0.2] (e), [0.3], [6.2]."""

import random
import unittest

from dodays.doing import added, changed, put_under, removed, wanting
from dodays.errors import BadThing, NoRoom, NoThing, Ring
from dodays.things import is_list
from making import (DeedTest, NO_NUMBERS, RULES, numbers_of, parts_plainly, random_list, replaced, thing,
                    under_plainly)

GOOD_TEXTS = ("a", "z", "0", "9", "do it", "a b c", "to do 2 of 3", "a" * 20, "a " * 9 + "bc", "7 7")
BAD_TEXTS = ("", " ", "a" * 21, "a" * 22, "a " * 10 + "b", " a", "a ", " a ", "a  b", "a   b", "a" * 19 + " ",
             " " + "a" * 19, "A", "aB", "Do it", "a-b", "-", "a.", "a,b", "a\nb", "a\n", "\n", "a_b", "a~", "!", "a\tb")
NO_TEXTS = (None, True, False, 0, 1, (), ("a",), ("a", "b"))
# Worths of the wrong kind, or out of all bounds, for each field but text.
NO_WORTHS = (True, False, -1, -10 ** 30, 10 ** 30, "", " ", "A", "-", "abcde", (), (1,), ("a",), (None,), ((),), (1, 2),
             ("each",), ("each", 0), (("each", 1),))


def numbered(*numbers):
    """A list of plain things with these numbers."""
    return tuple(map(thing, numbers))


def is_ring_plainly(things):
    """Whether any thing leans on itself, asked by taking away what leans on nothing."""
    left = {one[0]: set(one[5]) | {other[0] for other in things if other[6] == one[0]} for one in things}
    while True:
        free = [number for number, others in left.items() if not others & set(left)]
        if not free:
            return bool(left)
        for number in free:
            del left[number]


class AddedTest(DeedTest):
    def test_to_none(self):
        self.assert_told(added((), "buy paint"), (thing(1, text="buy paint"),))

    def test_one_above_the_greatest_number(self):
        for numbers in ((1,), (7,), (1, 2), (1, 9), (500, 700), (998,), (1, 998)):
            things = numbered(*numbers)
            self.assert_told(added(things, "x"), (*things, thing(numbers[-1] + 1, text="x")))

    def test_what_is_there_stays(self):
        things = (thing(1, weight=2, start=3, due=4, wants=(2,), rule=("each", 1), hand="ann", done=6), thing(2))
        self.assert_told(added(things, "x"), (*things, thing(3, text="x")))

    def test_to_eleven_and_twelve(self):
        for many in range(12):
            things = numbered(*range(1, many + 1))
            self.assert_told(added(things, "x"), (*things, thing(many + 1, text="x")))
        for many in (12, 13, 20):
            self.assert_refused(NoRoom, added, numbered(*range(1, many + 1)), "x")

    def test_behind_number_998_and_999(self):
        self.assert_told(added(numbered(998), "x"), (thing(998), thing(999, text="x")))
        self.assert_refused(NoRoom, added, numbered(999), "x")
        self.assert_refused(NoRoom, added, numbered(1, 999), "x")
        self.assert_refused(NoRoom, added, numbered(*range(988, 1000)), "x")

    def test_texts(self):
        for text in GOOD_TEXTS:
            self.assert_told(added(numbered(4), text), (thing(4), thing(5, text=text)))

    def test_no_texts(self):
        for text in BAD_TEXTS + NO_TEXTS:
            self.assert_refused(BadThing, added, (), text)
            self.assert_refused(BadThing, added, numbered(4), text)

    def test_no_text_ahead_of_no_room(self):
        for text in BAD_TEXTS + NO_TEXTS:
            self.assert_refused(BadThing, added, numbered(*range(1, 13)), text)
            self.assert_refused(BadThing, added, numbered(999), text)

    def test_what_is_taken_out_again_is_as_it_was(self):
        chance = random.Random(21)
        for _ in range(200):
            things = random_list(chance, chance.randrange(12))
            told = added(things, "x")
            self.assertEqual(removed(told, told[-1][0]), things)


class RemovedTest(DeedTest):
    def test_alone(self):
        self.assert_told(removed(numbered(5), 5), ())
        self.assert_told(removed(numbered(1, 5, 9), 5), numbered(1, 9))
        self.assert_told(removed(numbered(1, 5, 9), 9), numbered(1, 5))

    def test_done_or_not(self):
        self.assert_told(removed((thing(1, done=3), thing(2, done=4)), 2), (thing(1, done=3),))

    def test_parts_and_theirs(self):
        things = (thing(1, parent=4), thing(2), thing(3, parent=1), thing(4), thing(5, parent=3), thing(6, parent=2),
                  thing(7, parent=4))
        self.assert_told(removed(things, 4), (thing(2), thing(6, parent=2)))
        self.assert_told(removed(things, 1), (thing(2), thing(4), thing(6, parent=2), thing(7, parent=4)))
        self.assert_told(removed(things, 7), things[:6])
        self.assert_told(removed(things, 5), (*things[:4], *things[5:]))

    def test_parents_stay(self):
        things = (thing(1, parent=2), thing(2, parent=3), thing(3))
        self.assert_told(removed(things, 1), (thing(2, parent=3), thing(3)))

    def test_wanted_by_others(self):
        things = (thing(1, wants=(2, 3)), thing(2), thing(3), thing(4, wants=(2,)), thing(5, wants=(1, 2, 3, 4)))
        self.assert_told(removed(things, 2), (thing(1, wants=(3,)), thing(3), thing(4), thing(5, wants=(1, 3, 4))))

    def test_what_it_wants_stays(self):
        things = (thing(1), thing(2, wants=(1,)))
        self.assert_told(removed(things, 2), (thing(1),))

    def test_parts_wanted_by_others(self):
        things = (thing(1, wants=(3, 5)), thing(2), thing(3, parent=2), thing(4, parent=3), thing(5, wants=(2, 4)))
        self.assert_told(removed(things, 2), (thing(1, wants=(5,)), thing(5)))

    def test_no_thing(self):
        for things in ((), numbered(2), (thing(2, wants=(3,)), thing(3))):
            for number in NO_NUMBERS:
                self.assert_refused(NoThing, removed, things, number)

    def test_by_the_words(self):
        chance = random.Random(22)
        for _ in range(400):
            things = random_list(chance, chance.randrange(1, 13))
            number = chance.choice(numbers_of(things))
            gone = {number} | parts_plainly(things, number)
            self.assert_told(removed(things, number), tuple(
                (*one[:5], tuple(other for other in one[5] if other not in gone), *one[6:])
                for one in things if one[0] not in gone))


class ChangedTest(DeedTest):
    def assert_field(self, field, worths, is_good, **others):
        """Change a field of the middle one of three things to these worths."""
        things = (thing(3, due=4), thing(**{"number": 5, **others}), thing(7, wants=(3,)))
        self.assertIs(is_list(things), True)
        for worth in worths:
            with self.subTest(field=field, worth=worth):
                if is_good:
                    self.assert_told(changed(things, 5, field, worth), replaced(things, 5, **{field: worth}))
                else:
                    self.assert_refused(BadThing, changed, things, 5, field, worth)

    def test_text(self):
        self.assert_field("text", GOOD_TEXTS, True)
        self.assert_field("text", BAD_TEXTS + NO_TEXTS, False)

    def test_weight(self):
        self.assert_field("weight", range(10), True)
        self.assert_field("weight", (-2, -1, 10, 11, None, True, False, "0", "", "a", (), (1,)), False)

    def test_start(self):
        self.assert_field("start", (None, 0, 1, 9000, 36523, 36524), True)
        self.assert_field("start", (None, 0, 7, 36524), True, start=5, due=6, rule=("each", 1))
        self.assert_field("start", (-2, -1, 36525, 36526, True, False, "0", "", "2000-01-01", (), (1,), (2000, 1, 1)),
                          False)

    def test_due(self):
        self.assert_field("due", (None, 0, 1, 9000, 36523, 36524), True)
        self.assert_field("due", (None, 0, 7, 36524), True, start=5, due=6)
        self.assert_field("due", (-2, -1, 36525, 36526, True, False, "0", "", "2000-01-01", (), (1,), (2000, 1, 1)),
                          False)

    def test_due_where_there_is_a_rule(self):
        for rule in RULES:
            self.assert_field("due", (0, 9, 36524), True, due=5, rule=rule)
            self.assert_field("due", (None, -1, 36525), False, due=5, rule=rule)

    def test_rule(self):
        rules = (None, *RULES, ("week", (0, 1, 2, 3, 4, 5, 6)), ("month", 1), ("year", 1, 31))
        self.assert_field("rule", rules, True, due=5)
        self.assert_field("rule", rules, True, due=5, rule=("each", 3))
        self.assert_field("rule", (("each", 0), ("each", 1000), ("each", True), ("week", ()), ("week", (7,)), ("week", 1),
                                   ("week", (1, 0)), ("week", (1, 1)), ("week", (True,)), ("month", 0), ("month", 32),
                                   ("year", 2, 30), ("year", 13, 1), ("year", 0, 1), ("year", 1), ("day", 1), "each",
                                   "each,1", 1, (), True, False), False, due=5)

    def test_rule_where_there_is_no_due(self):
        self.assert_field("rule", RULES, False)
        self.assert_field("rule", RULES, False, start=5, done=6)
        self.assert_field("rule", (None,), True)

    def test_hand(self):
        self.assert_field("hand", (None, "a", "z", "ab", "abc", "abcd", "none"), True)
        self.assert_field("hand", (None, "bob"), True, hand="ann")
        self.assert_field("hand", ("", "abcde", "A", "aB", "a1", "1", "a b", " a", "a ", "a-", "-", "a\n", True, False, 0,
                                   1, (), ("a",)), False)

    def test_worths_that_no_field_has(self):
        for field in ("weight", "start", "due", "rule", "hand"):
            self.assert_field(field, NO_WORTHS, False, due=5)

    def test_worths_of_other_fields(self):
        for field, worths in (("text", (5, None, ("each", 1))), ("weight", ("do it", 36524, None, ("each", 1))),
                              ("start", ("ann", ("each", 1))), ("due", ("ann", ("each", 1))),
                              ("rule", ("ann", 5)), ("hand", (5, ("each", 1), "do it"))):
            self.assert_field(field, worths, False, due=5)

    def test_none(self):
        for field in ("text", "weight", "start", "due", "rule", "hand"):
            self.assert_field(field, (None,), field not in ("text", "weight"), start=3, due=4, hand="ann")

    def test_only_this_field(self):
        own = {"weight": 2, "start": 3, "due": 4, "wants": (3,), "rule": ("each", 2), "hand": "ann", "done": 9}
        for field, worth in (("text", "x"), ("weight", 3), ("start", 1), ("due", 2), ("rule", ("month", 3)), ("hand", "bob")):
            self.assert_field(field, (worth,), True, **own)

    def test_no_thing_ahead_of_bad_thing(self):
        for number in NO_NUMBERS:
            for field, good, bad in (("text", "x", ""), ("weight", 3, 10), ("start", 1, -1), ("due", None, True),
                                     ("rule", None, ("each", 1)), ("hand", "ann", "Ann")):
                self.assert_refused(NoThing, changed, numbered(2, 3), number, field, good)
                self.assert_refused(NoThing, changed, numbered(2, 3), number, field, bad)
                self.assert_refused(NoThing, changed, (), number, field, bad)

    def test_other_fields(self):
        for field in ("number", "wants", "parent", "done", "", "Text", "hands"):
            for worth in (None, 0, 1, (), "x"):
                self.assert_refused(BadThing, changed, numbered(2, 3), 2, field, worth)

    def test_what_is_put_back_is_as_it_was(self):
        chance = random.Random(23)
        for _ in range(300):
            things = random_list(chance, chance.randrange(1, 13))
            own = chance.choice(things)
            for field, place, worth in (("text", 1, "x"), ("weight", 2, 9), ("start", 3, 77), ("due", 4, 88),
                                        ("hand", 8, "cy")):
                told = changed(things, own[0], field, worth)
                self.assert_told(told, replaced(things, own[0], **{field: worth}))
                self.assertEqual(changed(told, own[0], field, own[place]), things)


class WantingTest(DeedTest):
    def test_on(self):
        self.assert_told(wanting(numbered(1, 2), 2, 1, True), (thing(1), thing(2, wants=(1,))))
        self.assert_told(wanting(numbered(1, 2), 1, 2, True), (thing(1, wants=(2,)), thing(2)))

    def test_on_stays_rising(self):
        things = (*numbered(1, 3, 5, 7), thing(9, wants=(3, 7)))
        for other, wants in ((1, (1, 3, 7)), (5, (3, 5, 7)), (3, (3, 7)), (7, (3, 7))):
            self.assert_told(wanting(things, 9, other, True), replaced(things, 9, wants=wants))

    def test_off(self):
        things = (*numbered(1, 3, 5, 7), thing(9, wants=(3, 5, 7)))
        for other, wants in ((1, (3, 5, 7)), (3, (5, 7)), (5, (3, 7)), (7, (3, 5))):
            self.assert_told(wanting(things, 9, other, False), replaced(things, 9, wants=wants))

    def test_off_what_it_leans_on_as_a_part(self):
        things = (thing(1, wants=(2,)), thing(2, parent=1))
        self.assert_told(wanting(things, 1, 2, False), (thing(1), thing(2, parent=1)))

    def test_off_itself_or_one_over_it(self):
        things = (thing(1), thing(2, wants=(1,)), thing(3, parent=1))
        for number in (1, 2, 3):
            self.assert_told(wanting(things, number, number, False), things)
        self.assert_told(wanting(things, 1, 2, False), things)
        self.assert_told(wanting(things, 3, 1, False), things)

    def test_a_fifth_one(self):
        things = (*numbered(1, 2, 3, 4, 5), thing(6, wants=(1, 2, 3, 4)), thing(7, wants=(1, 2, 3)))
        self.assert_refused(NoRoom, wanting, things, 6, 5, True)
        self.assert_told(wanting(things, 7, 5, True), replaced(things, 7, wants=(1, 2, 3, 5)))
        for other in (1, 2, 3, 4):
            self.assert_told(wanting(things, 6, other, True), things)
        self.assert_told(wanting(things, 6, 5, False), things)

    def test_itself(self):
        self.assert_refused(Ring, wanting, numbered(1), 1, 1, True)
        self.assert_refused(Ring, wanting, numbered(1, 2), 2, 2, True)

    def test_rings_by_wants(self):
        things = (thing(1, wants=(2,)), thing(2, wants=(3,)), thing(3), thing(4))
        self.assert_refused(Ring, wanting, things, 2, 1, True)
        self.assert_refused(Ring, wanting, things, 3, 1, True)
        self.assert_refused(Ring, wanting, things, 3, 2, True)
        self.assert_told(wanting(things, 3, 4, True), replaced(things, 3, wants=(4,)))
        self.assert_told(wanting(things, 4, 1, True), replaced(things, 4, wants=(1,)))
        self.assert_told(wanting(things, 1, 3, True), replaced(things, 1, wants=(2, 3)))

    def test_rings_by_parents(self):
        # 1 is a part of 2, that one of 3: these lean on 1.
        things = (thing(1, parent=2), thing(2, parent=3), thing(3), thing(4))
        self.assert_refused(Ring, wanting, things, 1, 2, True)
        self.assert_refused(Ring, wanting, things, 1, 3, True)
        self.assert_refused(Ring, wanting, things, 2, 3, True)
        self.assert_told(wanting(things, 3, 1, True), replaced(things, 3, wants=(1,)))
        self.assert_told(wanting(things, 2, 1, True), replaced(things, 2, wants=(1,)))

    def test_rings_by_both(self):
        things = (thing(1, parent=2), thing(2), thing(3, wants=(2,), parent=4), thing(4))
        self.assert_refused(Ring, wanting, things, 1, 3, True)
        self.assert_refused(Ring, wanting, things, 1, 4, True)
        self.assert_refused(Ring, wanting, things, 2, 4, True)
        self.assert_told(wanting(things, 4, 1, True), replaced(things, 4, wants=(1,)))

    def test_things_done_make_rings_too(self):
        self.assert_refused(Ring, wanting, (thing(1, wants=(2,), done=3), thing(2, done=2)), 2, 1, True)

    def test_no_room_ahead_of_ring(self):
        things = (*numbered(1, 2, 3, 4), thing(5, wants=(1, 2, 3, 4)), thing(6, wants=(5,)), thing(7))
        self.assert_refused(NoRoom, wanting, things, 5, 6, True)
        self.assert_refused(NoRoom, wanting, things, 5, 5, True)
        self.assert_refused(NoRoom, wanting, things, 5, 7, True)

    def test_no_thing_ahead_of_all(self):
        things = (*numbered(2, 3, 4, 5), thing(6, wants=(2, 3, 4, 5)), thing(7))
        for none in NO_NUMBERS:
            for is_on in (True, False):
                self.assert_refused(NoThing, wanting, things, none, 2, is_on)
                self.assert_refused(NoThing, wanting, things, 7, none, is_on)
                self.assert_refused(NoThing, wanting, things, 6, none, is_on)
                self.assert_refused(NoThing, wanting, things, none, none, is_on)
                self.assert_refused(NoThing, wanting, (), none, none, is_on)

    def test_by_the_words(self):
        chance = random.Random(24)
        ends = {NoRoom: 0, Ring: 0, None: 0}
        for _ in range(2500):
            things = random_list(chance, chance.randrange(1, 13), share_leaning=chance.choice((0.1, 0.3, 0.8)))
            number, other = (chance.choice(numbers_of(things)) for _ in range(2))
            wants = next(one[5] for one in things if one[0] == number)
            self.assert_told(wanting(things, number, other, False),
                             replaced(things, number, wants=tuple(one for one in wants if one != other)))
            told = replaced(things, number, wants=tuple(sorted({*wants, other})))
            refusal = NoRoom if len({*wants, other}) > 4 else Ring if is_ring_plainly(told) else None
            ends[refusal] += 1
            if refusal:
                self.assert_refused(refusal, wanting, things, number, other, True)
                continue
            self.assert_told(wanting(things, number, other, True), told)
            if other not in wants:
                self.assertEqual(wanting(told, number, other, False), things)
        self.assertTrue(all(many > 100 for many in ends.values()), ends)


class PutUnderTest(DeedTest):
    def test_another_parent(self):
        things = (thing(1, parent=2), thing(2), thing(3))
        self.assert_told(put_under(things, 1, 3), (thing(1, parent=3), thing(2), thing(3)))
        self.assert_told(put_under(things, 1, 2), things)
        self.assert_told(put_under(things, 3, 2), replaced(things, 3, parent=2))
        self.assert_told(put_under(things, 3, 1), replaced(things, 3, parent=1))

    def test_none(self):
        things = (thing(1, parent=2, due=4), thing(2, parent=3), thing(3))
        self.assert_told(put_under(things, 1, None), replaced(things, 1, parent=None))
        self.assert_told(put_under(things, 3, None), things)

    def test_itself(self):
        self.assert_refused(Ring, put_under, numbered(1), 1, 1)
        self.assert_refused(Ring, put_under, (thing(1, parent=2), thing(2)), 1, 1)

    def test_one_under_it(self):
        things = (thing(1, parent=2), thing(2, parent=3), thing(3), thing(4))
        for number, parent in ((2, 1), (3, 1), (3, 2)):
            self.assert_refused(Ring, put_under, things, number, parent)
        self.assert_told(put_under(things, 1, 3), replaced(things, 1, parent=3))

    def test_one_that_it_wants(self):
        things = (thing(1, wants=(2,)), thing(2, wants=(3,)), thing(3), thing(4, parent=2))
        for number, parent in ((1, 2), (1, 3), (2, 3), (1, 4), (2, 4)):
            self.assert_refused(Ring, put_under, things, number, parent)
        self.assert_told(put_under(things, 2, 1), replaced(things, 2, parent=1))
        self.assert_told(put_under(things, 3, 1), replaced(things, 3, parent=1))

    def test_the_parent_it_had_does_not_count(self):
        # 2 leans on 1 only as its part.
        things = (thing(1, parent=2), thing(2), thing(3, wants=(2,)))
        self.assert_told(put_under(things, 1, 3), replaced(things, 1, parent=3))

    def test_no_thing(self):
        things = (thing(2), thing(3, parent=2))
        for none in NO_NUMBERS:
            for number, parent in ((none, 2), (none, None), (2, none), (3, none), (none, none)):
                self.assert_refused(NoThing, put_under, things, number, parent)
            self.assert_refused(NoThing, put_under, (), none, None)
            self.assert_refused(NoThing, put_under, (), none, none)

    def test_by_the_words(self):
        chance = random.Random(25)
        rings = 0
        for _ in range(1500):
            things = random_list(chance, chance.randrange(1, 13), share_leaning=chance.choice((0.1, 0.3)))
            number = chance.choice(numbers_of(things))
            parent = chance.choice((None, *numbers_of(things)))
            told = replaced(things, number, parent=parent)
            if is_ring_plainly(told):
                rings += 1
                self.assertIn(parent, {number} | under_plainly(replaced(things, number, parent=None), number))
                self.assert_refused(Ring, put_under, things, number, parent)
                continue
            self.assert_told(put_under(things, number, parent), told)
            before = next(one[6] for one in things if one[0] == number)
            self.assertEqual(put_under(told, number, before), things)
        self.assertTrue(200 < rings < 1300, rings)


class BeyondTest(unittest.TestCase):
    """Lists that are told may have more things, and later days."""

    def test_more_things(self):
        things = tuple(thing(number, wants=(number - 1,) if number > 1 else ()) for number in range(1, 41))
        self.assertEqual(removed(things, 20), (*things[:19], thing(21), *things[21:]))
        self.assertEqual(changed(things, 30, "hand", "ann"), replaced(things, 30, hand="ann"))
        self.assertEqual(wanting(things, 40, 1, True), replaced(things, 40, wants=(1, 39)))
        self.assertEqual(wanting(things, 40, 39, False), replaced(things, 40, wants=()))
        self.assertEqual(put_under(things, 1, 40), replaced(things, 1, parent=40))
        for deed in (lambda: wanting(things, 1, 40, True), lambda: put_under(things, 40, 1)):
            with self.assertRaises(Ring):
                deed()
        with self.assertRaises(NoRoom):
            added(things, "x")

    def test_later_days(self):
        things = (thing(1, start=40000, due=41000, rule=("each", 2), done=42000), thing(2, wants=(1,)))
        self.assertEqual(added(things, "x"), (*things, thing(3, text="x")))
        self.assertEqual(removed(things, 2), things[:1])
        self.assertEqual(wanting(things, 2, 1, False), replaced(things, 2, wants=()))
        self.assertEqual(put_under(things, 1, 2), replaced(things, 1, parent=2))
        for field, worth in (("text", "x"), ("weight", 3), ("start", 5), ("due", 6), ("rule", None),
                             ("rule", ("each", 1)), ("hand", "ann"), ("start", None)):
            self.assertEqual(changed(things, 1, field, worth), replaced(things, 1, **{field: worth}))
        for field, worth in (("start", 40000), ("due", 36525), ("due", None)):
            with self.assertRaises(BadThing):
                changed(things, 1, field, worth)


if __name__ == "__main__":
    unittest.main()
