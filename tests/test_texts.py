"""Lists written and read: [0.2] (a), [0.3], [8.1]."""

import datetime
import random
import re
import unittest

from dodays.errors import NoText
from dodays.reading import read
from dodays.things import is_list
from dodays.writing import written
from making import RULES, numbers_of, random_list, replaced, thing

FULL = (thing(1, text="buy paint", weight=3, start=0, due=36524, wants=(2, 3), parent=4, rule=("week", (0, 2, 6)),
              hand="ann", done=59),
        thing(2), thing(3, text="a 1 b 2", due=31, rule=("year", 2, 29)), thing(4, text="z" * 20, hand="abcd"))
FULL_TEXT = ("1 3 2000-01-01 2099-12-31 2000-02-29 ann 4 week,0,2,6 2,3 buy paint\n"
             "2 0 - - - - - - - do it\n"
             "3 0 - 2000-02-01 - - - year,2,29 - a 1 b 2\n"
             "4 0 - - - abcd - - - zzzzzzzzzzzzzzzzzzzz\n")
# A plain line, for texts that differ from a list's in one place.
WORDS = ("5", "3", "2000-01-01", "2000-01-02", "2000-01-03", "ann", "-", "each,2", "6,7", "do it")
REST = "\n6 0 - - - - - - - a\n7 0 - - - - - - - b\n"


def written_plainly(things):
    """The text of a list, each of the document's words by itself."""
    def of_day(day):
        return "-" if day is None else (datetime.date(2000, 1, 1) + datetime.timedelta(days=day)).isoformat()

    lines = []
    for number, text, weight, start, due, wants, parent, rule, hand, done in things:
        rule_word = "-" if rule is None else ",".join(re.findall(r"\w+", repr(rule)))
        words = (f"{number}", f"{weight}", of_day(start), of_day(due), of_day(done), hand or "-",
                 "-" if parent is None else f"{parent}", rule_word, ",".join(map(str, wants)) or "-", text)
        lines.append(" ".join(words) + "\n")
    return "".join(lines)


def random_text_of_thing(chance):
    """A text that a thing may have."""
    while True:
        text = "".join(chance.choice("abyz019  ") for _ in range(chance.randrange(1, 21))).strip()
        if text and "  " not in text:
            return text


def random_full_list(chance):
    """A list whose every field may be anything."""
    things = random_list(chance, chance.randrange(13), last_day=36524)
    for number in numbers_of(things):
        things = replaced(things, number, text=random_text_of_thing(chance), weight=chance.randrange(10),
                          hand=chance.choice((None, "a", "zz", "none", "abcd")))
    return things


class TextsTest(unittest.TestCase):
    def assert_tell_one_another(self, things, text):
        self.assertIs(is_list(things), True)
        with self.subTest(things=things):
            for _ in range(2):
                self.assertEqual(written(things), text)
                self.assertEqual(repr(read(text)), repr(things))

    def assert_no_text(self, text):
        for _ in range(2):
            with self.subTest(text=text):
                try:
                    told = read(text)
                except ValueError as error:
                    self.assertIs(type(error), NoText)
                else:
                    self.fail(f"read: {told}")

    def assert_word(self, place, words, is_good):
        """Read texts of three lines with these words at a place of the first one's."""
        for word in words:
            text = " ".join((*WORDS[:place], word, *WORDS[place + 1:])) + REST
            if is_good:
                with self.subTest(text=text):
                    self.assertEqual(written(read(text)), text)
                    self.assertIs(is_list(read(text)), True)
            else:
                self.assert_no_text(text)


class WrittenTest(TextsTest):
    def test_no_things(self):
        self.assert_tell_one_another((), "")

    def test_nothing_but_a_text(self):
        self.assert_tell_one_another((thing(1, text="a"),), "1 0 - - - - - - - a\n")

    def test_all_fields(self):
        self.assert_tell_one_another(FULL, FULL_TEXT)

    def test_each_field_alone(self):
        for fields, line in (({"text": "a b c"}, "1 0 - - - - - - - a b c"), ({"weight": 9}, "1 9 - - - - - - - do it"),
                             ({"start": 1}, "1 0 2000-01-02 - - - - - - do it"),
                             ({"due": 1}, "1 0 - 2000-01-02 - - - - - do it"),
                             ({"done": 1}, "1 0 - - 2000-01-02 - - - - do it"),
                             ({"hand": "bob"}, "1 0 - - - bob - - - do it"),
                             ({"parent": 2}, "1 0 - - - - 2 - - do it"),
                             ({"due": 1, "rule": ("each", 3)}, "1 0 - 2000-01-02 - - - each,3 - do it"),
                             ({"wants": (2,)}, "1 0 - - - - - - 2 do it")):
            self.assert_tell_one_another((thing(**{"number": 1, **fields}), thing(2, text="x")),
                                         line + "\n2 0 - - - - - - - x\n")

    def test_each_kind_of_rule(self):
        for rule, word in ((("each", 1), "each,1"), (("each", 999), "each,999"), (("week", (0,)), "week,0"),
                           (("week", (6,)), "week,6"), (("week", (0, 1, 2, 3, 4, 5, 6)), "week,0,1,2,3,4,5,6"),
                           (("month", 1), "month,1"), (("month", 31), "month,31"), (("year", 1, 1), "year,1,1"),
                           (("year", 12, 31), "year,12,31"), (("year", 2, 29), "year,2,29")):
            self.assert_tell_one_another((thing(1, due=0, rule=rule),), f"1 0 - 2000-01-01 - - - {word} - do it\n")

    def test_several_wants(self):
        others = tuple(map(thing, (1, 20, 300, 999)))
        lines = "".join(f"{number} 0 - - - - - - - do it\n" for number in (1, 20, 300))
        for wants, word in (((), "-"), ((1,), "1"), ((1, 20), "1,20"), ((20, 300, 999), "20,300,999"),
                            ((1, 20, 300, 999), "1,20,300,999")):
            self.assert_tell_one_another((*others[:3], thing(500, wants=wants), others[3]),
                                         f"{lines}500 0 - - - - - - {word} do it\n999 0 - - - - - - - do it\n")

    def test_texts_that_look_like_fields(self):
        for text in ("1", "1 0", "2000 01 01", "0", "each", "a b c d e f g h i j", "1 2 3 4 5 6 7 8 9 0"):
            self.assert_tell_one_another((thing(1, text=text),), f"1 0 - - - - - - - {text}\n")

    def test_the_first_and_the_last_day(self):
        self.assert_tell_one_another((thing(1, start=0, due=36524, done=0), thing(2, start=36524, due=0, done=36524)),
                                     "1 0 2000-01-01 2099-12-31 2000-01-01 - - - - do it\n"
                                     "2 0 2099-12-31 2000-01-01 2099-12-31 - - - - do it\n")

    def test_twelve(self):
        self.assert_tell_one_another(tuple(map(thing, range(1, 13))),
                                     "".join(f"{number} 0 - - - - - - - do it\n" for number in range(1, 13)))

    def test_later_days_are_written_but_not_read(self):
        for field, place in (("start", 2), ("due", 3), ("done", 4)):
            for day, word in ((36525, "2100-01-01"), (36526, "2100-01-02"), (36555, "2100-01-31")):
                words = ["1", "0", *"-------", "do it"]
                words[place] = word
                text = " ".join(words) + "\n"
                self.assertEqual(written((thing(**{"number": 1, field: day}),)), text)
                self.assert_no_text(text)

    def test_more_things_are_written_but_not_read(self):
        for many in (13, 14, 40):
            text = "".join(f"{number} 0 - - - - - - - do it\n" for number in range(1, many + 1))
            self.assertEqual(written(tuple(map(thing, range(1, many + 1)))), text)
            self.assert_no_text(text)

    def test_any_lists(self):
        chance = random.Random(41)
        for _ in range(600):
            things = random_full_list(chance)
            self.assert_tell_one_another(things, written_plainly(things))


class ReadTest(TextsTest):
    def test_the_plain_line(self):
        self.assertEqual(read(" ".join(WORDS) + REST), (
            thing(5, weight=3, start=0, due=1, done=2, hand="ann", rule=("each", 2), wants=(6, 7)),
            thing(6, text="a"), thing(7, text="b")))

    def test_number(self):
        self.assert_word(0, ("1", "2", "5"), True)
        self.assert_word(0, ("0", "-1", "05", "005", "1000", "0005", "+5", "5.", "-", "", "a", "5a", "1_0", "5,",
                             "999", "6", "7", "10", "0x5", "1e1", "5-"), False)

    def test_weight(self):
        self.assert_word(1, "0123456789", True)
        self.assert_word(1, ("-", "", "-1", "10", "00", "03", "+3", "a", "3,", "3.0", "0" * 5000, "9" * 5000),
                         False)

    def test_days(self):
        good = ("2000-01-01", "2000-02-29", "2099-12-31", "2004-02-29", "2026-11-18")
        bad = ("", "--", "0", "36524", "1999-12-31", "2100-01-01", "2001-02-29", "2000-00-01", "2000-13-01", "2000-01-00",
               "2000-01-32", "2000-04-31", "2000-1-1", "2000-01-1", "02000-01-01", "2000-01-001", "2000/01/01",
               "20000101", "2000-01-01-", "-2000-01-01", "2000-01-0a", "2000,01,01")
        for place in (2, 3, 4):
            self.assert_word(place, good, True)
            self.assert_word(place, bad, False)
            # A rule stands only beside a due.
            self.assert_word(place, ("-",), place != 3)

    def test_hand(self):
        self.assert_word(5, ("-", "a", "z", "ab", "abcd", "none"), True)
        self.assert_word(5, ("", "--", "abcde", "A", "Ann", "a1", "1", "a-", "-a", "a,b", "."), False)

    def test_parent(self):
        text = "5 0 - - - - {} - - do it\n6 0 - - - - - - - a\n7 0 - - - - 6 - - b\n"
        for word in ("-", "6", "7"):
            self.assertEqual(written(read(text.format(word))), text.format(word))
        for word in ("", "--", "0", "-6", "06", "006", "5", "4", "8", "999", "1000", "+6", "6,", "6,7", "a"):
            self.assert_no_text(text.format(word))

    def test_rule(self):
        self.assert_word(7, ("-", "each,1", "each,999", "week,0", "week,0,6", "week,0,1,2,3,4,5,6", "month,1",
                             "month,31", "year,1,1", "year,2,29", "year,12,31"), True)
        self.assert_word(7, ("", "--", "each", "each,", "each,0", "each,00", "each,01", "each,001", "each,1000",
                             "each,-1", "each,1,", "each,1,1", ",each,1", "each,,1", "Each,1", "EACH,1", "week",
                             "week,", "week,7", "week,-1", "week,00", "week,1,0", "week,1,1", "week,(0)",
                             "week,0,,1", "month,0", "month,32", "month,01", "month", "month,1,1", "year,1",
                             "year,2,30", "year,13,1", "year,0,1", "year,1,0", "year,01,1", "year,1,01",
                             "year,1,1,1", "day,1", "each;1", "each.1", "1,each", "1", ",", "each,a",
                             "each," + "1" * 5000), False)

    def test_wants(self):
        self.assert_word(8, ("-", "6", "7", "6,7"), True)
        self.assert_word(8, ("", "--", ",", "6,", ",6", "6,,7", "7,6", "6,6", "06", "6,07", "0", "5", "4", "6,8",
                             "999", "1000", "-6", "+6", "a", "6,a", "6;7", "(6,7)", "6,7,-"), False)

    def test_five_wants(self):
        lines = "".join(f"{number} 0 - - - - - - - a\n" for number in range(1, 6))
        self.assertEqual(len(read(lines + "6 0 - - - - - - 1,2,3,4 b\n")), 6)
        self.assert_no_text(lines + "6 0 - - - - - - 1,2,3,4,5 b\n")

    def test_text(self):
        self.assert_word(9, ("a", "0", "do it", "a b c", "a" * 20, "a " * 9 + "bc"), True)
        self.assert_word(9, ("", " ", "a" * 21, "a  b", " a", "a ", "A", "Do it", "-", "a-b", "a,b", "a.",
                             "a " * 10 + "b", "a\tb", "a\rb"), False)

    def test_a_word_more_or_less(self):
        words = list(WORDS)
        for place in range(10):
            self.assert_no_text(" ".join(words[:place] + words[place + 1:]) + REST)
            if place < 9:
                self.assert_no_text(" ".join(words[:place] + ["-"] + words[place:]) + REST)
                self.assert_no_text(" ".join(words[:place] + [words[place]] + words[place:]) + REST)

    def test_words_exchanged(self):
        words = ["5", "3", "2000-01-01", "2000-01-02", "-", "ann", "-", "each,2", "6,7", "do it"]
        for one in range(10):
            for other in range(one):
                exchanged = list(words)
                exchanged[one], exchanged[other] = words[other], words[one]
                text = " ".join(exchanged) + REST
                # Those that are days may change places; number and weight, too.
                if sorted((words[one], words[other])) in (["2000-01-01", "2000-01-02"], ["3", "5"],
                                                          ["-", "2000-01-01"], ["-", "-"]) and (one, other) != (6, 2):
                    self.assertEqual(written(read(text)), text)
                else:
                    self.assert_no_text(text)

    def test_lines(self):
        self.assertEqual(read(FULL_TEXT), FULL)
        lines = FULL_TEXT.split("\n")[:-1]
        self.assert_no_text(FULL_TEXT[:-1])
        self.assert_no_text(FULL_TEXT + "\n")
        self.assert_no_text("\n" + FULL_TEXT)
        self.assert_no_text(FULL_TEXT.replace("\n", "\n\n"))
        self.assert_no_text(FULL_TEXT.replace("\n", " \n"))
        self.assert_no_text(FULL_TEXT.replace("\n", "\n "))
        self.assert_no_text(FULL_TEXT.replace("\n", "\r\n"))
        self.assert_no_text(FULL_TEXT.replace("\n", " "))
        self.assert_no_text(FULL_TEXT.replace(" ", "  "))
        self.assert_no_text(FULL_TEXT.replace(" ", "\t"))
        self.assert_no_text(FULL_TEXT.upper())
        self.assert_no_text(FULL_TEXT + " ")
        self.assert_no_text(" " + FULL_TEXT)
        for place in range(4):
            self.assert_no_text("\n".join(lines[:place] + [lines[place]] + lines[place:]) + "\n")
            self.assert_no_text("\n".join(lines[:place] + [lines[place] + " "] + lines[place + 1:]) + "\n")
            self.assert_no_text("\n".join(lines[:place] + [" " + lines[place]] + lines[place + 1:]) + "\n")
            self.assert_no_text("\n".join(lines[:place] + [""] + lines[place:]) + "\n")
            for other in range(place):
                exchanged = list(lines)
                exchanged[place], exchanged[other] = lines[other], lines[place]
                self.assert_no_text("\n".join(exchanged) + "\n")
        # The first line leans on all others.
        for place in range(1, 4):
            self.assert_no_text("\n".join(lines[:place] + lines[place + 1:]) + "\n")
        self.assertEqual(read("\n".join(lines[1:]) + "\n"), FULL[1:])

    def test_no_texts_at_all(self):
        for text in (" ", "\n", "\n\n", " \n", "-", "-\n", "a", "a\n", "0\n", "()", "()\n", "[]", "None", repr(FULL),
                     "- - - - - - - - - -\n", " " * 9 + "\n", ",\n", "1 0 - - - - - - - a", "1 0 - - - - - - -\n",
                     "1 0 - - - - - - - \n", "~" * 100 + "\n", "1" * 5000 + " 0 - - - - - - - a\n"):
            self.assert_no_text(text)

    def test_things_that_are_no_list(self):
        line = "{} 0 - - - - {} - {} a\n"
        for rows in (((1, "-", "1"),), ((1, "1", "-"),), ((1, "-", "2"),), ((1, "2", "-"),),
                     ((1, "-", "2"), (2, "-", "1")), ((1, "2", "-"), (2, "1", "-")), ((1, "2", "2"), (2, "-", "-")),
                     ((1, "-", "2"), (2, "-", "3"), (3, "-", "1")), ((2, "-", "-"), (1, "-", "-")),
                     ((1, "-", "-"), (1, "-", "-")), ((1, "-", "-"), (3, "-", "1"), (2, "-", "-")),
                     ((1, "-", "-"), (2, "-", "1,3")), ((1, "3", "-"), (2, "-", "1")), ((0, "-", "-"),),
                     ((1000, "-", "-"),)):
            self.assert_no_text("".join(line.format(*row) for row in rows))
        self.assertEqual(len(read("".join(line.format(*row) for row in ((1, "2", "-"), (2, "-", "1"))))), 2)

    def test_a_sign_more_less_or_other(self):
        signs = "\n -,0129aekz:A~"
        chance = random.Random(42)
        texts = {FULL_TEXT, *(written(random_full_list(chance)) for _ in range(15))}
        read_ones = refused = 0
        for text in sorted(texts):
            for _ in range(400):
                at = chance.randrange(len(text) + 1)
                upto = chance.choice((at, at + 1))
                other = text[:at] + chance.choice(("", *signs)) + text[upto:]
                try:
                    things = read(other)
                except NoText:
                    refused += 1
                    continue
                read_ones += 1
                self.assertIs(is_list(things), True)
                # What is read is the text of just this list.
                self.assertEqual(written_plainly(things), other)
        self.assertTrue(refused > 2000 and read_ones > 300, (refused, read_ones))

    def test_any_signs(self):
        chance = random.Random(43)
        signs = [chr(code) for code in range(32, 127) if chr(code) != "%"] + ["\n"] * 8
        for _ in range(2000):
            text = "".join(chance.choice(signs) for _ in range(chance.randrange(1, 60)))
            self.assert_no_text(text)
        for _ in range(2000):
            words = [chance.choice(("1", "0", "-", "2", "3", "2000-01-01", "each,1", "week", "ann", "1,2", "", ",", "year,1",
                                    "-,-", "2000-02-30")) for _ in range(chance.randrange(1, 13))]
            self.assert_no_text(" ".join(words) + chance.choice((" a,\n", "\n\n", " A\n", " ")))


class RulesTest(TextsTest):
    def test_all_rules(self):
        rules = [("each", n) for n in range(1, 1000)] + [("month", k) for k in range(1, 32)]
        rules += [("week", tuple(day for day in range(7) if bits >> day & 1)) for bits in range(1, 128)]
        rules += [("year", month, k) for month in range(1, 13) for k in range(1, 30)]
        for rule in (*rules, *RULES):
            things = (thing(1, due=5, rule=rule),)
            text = f"1 0 - 2000-01-06 - - - {','.join(re.findall('[a-z0-9]+', repr(rule)))} - do it\n"
            self.assertEqual(written(things), text)
            self.assertEqual(read(text), things)


if __name__ == "__main__":
    unittest.main()
