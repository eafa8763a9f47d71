"""The texts of dependencies: points 1 to 5, 39 and 40, and the heading texts.py."""
import itertools
import random
import time
import unittest

import plainly
from followsortable import errors, texts
from followsortable.dependency import Fd, Jd, Mvd
from followsortable.errors import InvalidText, TableError
from followsortable.texts import read, read_all, write, write_all

# Signs that may stand in a text, and others, some of which Python takes for digits or blanks.
SIGNS = list("0123456789 ->[]join\n") + list("+_,;.:(){}=<JOINx\\'\"/*\t\r\x0b\x0c\x1c\x85\x00") + [
    "\u00a0", "\u2003", "\u2028", "\u3000", "\u0661", "\u00b2", "\uff11", "\u0966", "\u2212", "\u2010", "\uff1e", "\u00bb",
]


def some_dependency(chance, count):
    share = chance.choice((0, 0.2, 0.5, 1))
    if chance.random() < 0.4:
        return plainly.some_jd(chance, count, chance.randrange(1, 7), share)
    return plainly.some_pair(chance, count, share)


def changed(chance, text):
    """The text with one sign left out, put in, exchanged with the next one or replaced."""
    at = chance.randrange(len(text) + 1)
    sign = chance.choice(SIGNS if chance.random() < 0.5 else SIGNS[:19])
    turn = chance.randrange(4)
    if turn == 0:
        return text[:at] + text[at + 1:]
    if turn == 1:
        return text[:at] + sign + text[at:]
    if turn == 2:
        return text[:at] + text[at + 1:at + 2] + text[at:at + 1] + text[at + 2:]
    return text[:at] + sign + text[at + 1:]


def small_texts(count, most):
    """All texts of dependencies with at most so many parts, and all beginnings of texts with one part less."""
    sets = [plainly.set_text(some) for some in plainly.subsets(range(count))]
    told = [a + sign + b for a in sets for b in sets for sign in (" > ", " >> ")]
    beginnings = {text[:at] for text in told for at in range(len(text) + 1)}
    for many in range(1, most + 1):
        for parts in itertools.product(sets, repeat=many):
            text = "join" + "".join(" [" + part + "]" for part in parts)
            if many < most:
                beginnings.update(text[:at] for at in range(len(text) + 1))
            held = {column for part in parts for column in part.split(" ") if column != "-"}
            if len(held) == count:
                told.append(text)
    # Behind each text of a join dependency there may be one more part.
    beginnings.update(text + " [" [:at] for text in list(beginnings) if text.endswith("]") for at in (1, 2))
    return set(told), beginnings


class Write(unittest.TestCase):
    def test_by_hand(self):
        self.assertEqual(write(Fd([0, 1], [2])), "0 1 > 2")
        self.assertEqual(write(Fd([], [9, 0, 9])), "- > 0 9")
        self.assertEqual(write(Fd([3], [])), "3 > -")
        self.assertEqual(write(Fd([], [])), "- > -")
        self.assertEqual(write(Mvd([2, 1], [0, 3])), "1 2 >> 0 3")
        self.assertEqual(write(Mvd([], [])), "- >> -")
        self.assertEqual(write(Jd([[0, 1], [1, 2]])), "join [0 1] [1 2]")
        self.assertEqual(write(Jd([[1, 2], [], [0], [1, 2], []])), "join [1 2] [-] [0] [1 2] [-]")
        self.assertEqual(write(Jd([range(10)])), "join [0 1 2 3 4 5 6 7 8 9]")
        self.assertEqual(write(Jd([[]])), "join [-]")

    def test_lists(self):
        self.assertEqual(write_all([]), "")
        self.assertEqual(write_all([Fd([0], [1])]), "0 > 1\n")
        told = [Fd([0], [1]), Jd([[0], [1]]), Mvd([], [1]), Fd([0], [1])]
        self.assertEqual(write_all(told), "0 > 1\njoin [0] [1]\n- >> 1\n0 > 1\n")
        self.assertEqual(write_all(tuple(told)), write_all(told))

    def test_many(self):
        chance = random.Random(171)
        for turn in range(300):
            told = [some_dependency(chance, chance.randrange(1, 11)) for _ in range(chance.randrange(5))]
            before = plainly.all_fields(told)
            self.assertEqual([write(one) for one in told], [plainly.text_of(one) for one in told])
            self.assertEqual(write_all(told), "".join(plainly.text_of(one) + "\n" for one in told))
            self.assertEqual(plainly.all_fields(told), before)


class Reading(unittest.TestCase):
    def where(self, function, text, count):
        """Where a text is said to be none."""
        with self.assertRaises(InvalidText) as caught:
            function(text, count)
        self.assertIs(type(caught.exception), InvalidText)
        self.assertEqual(list(vars(caught.exception)), ["where"])
        self.assertIs(type(caught.exception.where), int)
        return caught.exception.where

    def assert_where(self, where, text, is_beginning, count):
        """where is the length of the longest beginning of the text that is one of a text."""
        self.assertTrue(0 <= where <= len(text))
        self.assertTrue(is_beginning(text[:where], count), (text, where))
        if where < len(text):
            self.assertFalse(is_beginning(text[:where + 1], count), (text, where))


class Read(Reading):
    def look_at(self, text, count):
        """What is read, or where the text is none, both compared with the definition."""
        expected = plainly.fields_of_text(text, count)
        if expected is not None:
            found = read(text, count)
            self.assertEqual(plainly.fields(found), expected)
            self.assertEqual(write(found), text)
            self.assertEqual(read(text, count), found)
            return expected
        where = self.where(read, text, count)
        self.assert_where(where, text, plainly.is_beginning, count)
        return where

    def test_by_hand(self):
        self.assertEqual(read("0 1 > 2", 3), Fd([0, 1], [2]))
        self.assertEqual(read("- > -", 1), Fd([], []))
        self.assertEqual(read("- >> 0 9", 10), Mvd([], [0, 9]))
        self.assertEqual(read("0 >> 0", 1), Mvd([0], [0]))
        self.assertEqual(read("join [0 1] [1 2]", 3), Jd([[0, 1], [1, 2]]))
        self.assertEqual(read("join [-] [0] [0] [-]", 1), Jd([[], [0], [0], []]))

    def test_where_by_hand(self):
        told = {
            "": 0, " ": 0, "0": 1, "0 ": 2, "0 >": 3, "0 > ": 4, "0 >>": 4, "0 >> ": 5, "0 > 1 ": 6, "0 > 2 ": 5,
            "0 > 1 2 ": 7, "0 > 1\n": 5, "0 > 1 2x": 7, "0  > 1": 2, "0 > > 1": 4, "0 >>> 1": 4, "0 >  1": 4,
            "0> 1": 1, "0 >1": 3, "- - > 1": 2, "- 0 > 1": 2, "-0 > 1": 1, "0 - > 1": 2, "0 > -1": 5, "0 > - 1": 5,
            "0 > 1 -": 6, "1 0 > 2": 2, "0 0 > 2": 2, "2 > 1 0": 6, "3 > 1": 0, "0 3 > 1": 2, "0 > 3": 4, "00 > 1": 1,
            "0 01 > 2": 2, "10 > 2": 1, "+0 > 1": 0, "0 < 1": 2, "0\t> 1": 1, "\u0660 > 1": 0, "\u00b2 > 1": 0,
            "j": 1, "join": 4, "join ": 5, "join [": 6, "join []": 6, "join [0": 7, "join [0 ": 8, "join [0 1 2": 11,
            "join [0 1 2 ": 11, "join [0 1 2] ": 13, "join [0 1 2] [": 14, "join [0 1 2]x": 12, "join [0 1]": 10,
            "join [0 1] [1]": 14, "join [0 1] [1] ": 15, "join  [0 1 2]": 5, "Join [0 1 2]": 0, "join [0 1 2]\n": 12,
            "join [0,1]": 7, "join [0 1][2]": 10, "join [0 1]  [2]": 11, "join [- 0] [0 1 2]": 7, "join [-0]": 7,
            "join [0 -]": 8, "join [2 1]": 7, "join [1 0]": 8, "join [0 1 2 3]": 11, "join [[0 1 2]]": 6, "join[0 1 2]": 4, "0 > join": 4,
            "- join [0 1 2]": 2, "-join": 1, "0 >> 1 > 2": 7, "0 > 1 >> 2": 6, "0 > 1 > 2": 6, "\n": 0, "x": 0,
        }
        for text, where in told.items():
            self.assertEqual((text, self.look_at(text, 3)), (text, where))

    def test_the_columns_that_there_are(self):
        for count in range(1, 11):
            for column in range(10):
                text = "- > " + str(column)
                self.assertEqual(self.look_at(text, count), ("Fd", (), (column,)) if column < count else 4)
                parts = "join [" + plainly.set_text(range(column + 1)) + "]"
                expected = ("Jd", (tuple(range(column + 1)),)) if column == count - 1 else None
                found = self.look_at(parts, count)
                # Behind the last column there is no further one.
                self.assertEqual(found, expected or min(len(parts), len("join [") + 2 * count - 1))

    def test_all_short_texts_of_a_few_signs(self):
        for count, most, signs, longest in ((1, 3, "0 -[>", 6), (2, 3, "01 >", 7), (2, 4, "01 ]-", 6)):
            told, beginnings = small_texts(count, most)
            heads = ("", "join ", "join [0") if most == 4 else ("",)
            for head in heads:
                for length in range(longest - 1):
                    for some in itertools.product(signs, repeat=length):
                        text = head + "".join(some)
                        found = self.look_at(text, count)
                        self.assertIs(type(found) is tuple, text in told)
                        if type(found) is int:
                            self.assertIn(text[:found], beginnings)
                            self.assertTrue(found == len(text) or text[:found + 1] not in beginnings)

    def test_written_texts_and_their_beginnings(self):
        chance = random.Random(172)
        for count in range(1, 11):
            for turn in range(12):
                made = some_dependency(chance, count)
                text = write(made)
                self.assertEqual(plainly.fields(read(text, count)), plainly.fields(made))
                self.assertEqual(read(text, count), made)
                for at in range(len(text)):
                    found = self.look_at(text[:at], count)
                    self.assertTrue(type(found) is tuple or found == at)

    def test_changed_texts(self):
        chance = random.Random(173)
        seen = {tuple: 0, int: 0}
        for count in range(1, 11):
            for turn in range(120):
                text = changed(chance, write(some_dependency(chance, count)))
                seen[type(self.look_at(text, count))] += 1
                seen[type(self.look_at(changed(chance, text), count))] += 1
        self.assertGreater(min(seen.values()), 100)

    def test_all_sizes_of_all_kinds(self):
        for count in range(1, 4):
            sets = plainly.subsets(range(count))
            for left in sets:
                for right in sets:
                    for made in (Fd(left, right), Mvd(left, right), Jd([left, right, range(count)])):
                        self.assertEqual(read(write(made), count), made)

    def test_many_parts_and_a_long_text(self):
        start = time.process_time()
        made = Jd([range(10)] + [[]] * 900 + [[5]] * 90)
        text = write(made)
        self.assertLess(3900, len(text))
        self.assertLess(len(text), 4001)
        self.assertEqual(read(text, 10), made)
        self.assertEqual(self.where(read, text + " ", 10), len(text) + 1)
        self.assertEqual(self.where(read, text + " x", 10), len(text) + 1)
        self.assertEqual(self.where(read, text.replace("join", "joni"), 10), 2)
        self.assertLess(time.process_time() - start, 20)

    def test_defined_here(self):
        for made in (write, write_all, read, read_all):
            self.assertEqual(made.__module__, "followsortable.texts")
            self.assertIs(getattr(texts, made.__name__), made)
        self.assertEqual(InvalidText.__bases__, (TableError,))
        self.assertIs(errors.InvalidText, InvalidText)


class ReadAll(Reading):
    def look_at(self, text, count):
        *lines, last = text.split("\n")
        expected = [plainly.fields_of_text(line, count) for line in lines]
        if last == "" and None not in expected:
            found = read_all(text, count)
            self.assertIs(type(found), list)
            self.assertEqual(plainly.all_fields(found), expected)
            self.assertEqual(write_all(found), text)
            self.assertEqual(read_all(text, count), found)
            return expected
        where = self.where(read_all, text, count)
        self.assert_where(where, text, plainly.is_beginning_of_all, count)
        return where

    def test_by_hand(self):
        self.assertEqual(read_all("", 3), [])
        self.assertEqual(read_all("0 > 1\n", 3), [Fd([0], [1])])
        self.assertEqual(read_all("0 > 1\njoin [0 1] [1 2]\n- >> -\n", 3), [Fd([0], [1]), Jd([[0, 1], [1, 2]]), Mvd([], [])])

    def test_where_by_hand(self):
        told = {
            "\n": 0, "0 > 1": 5, "0 > 1 ": 6, "0 > 1\n\n": 6, "0 > 1\n ": 6, "0 > 1\n0": 7, "0 > 1\n0 > 1": 11,
            "0 > 1\r\n": 5, "0 > 1 \n": 6, "0 > \n": 4, "0 > 1\n3 > 1\n": 6, "0 > 1\n0 > 1\nx": 12, " \n": 0,
            "join [0 1]\n": 10, "join [0 1]": 10, "join [0 1] [2]": 14, "join [0 1] [2]\njoin [2]\n": 23,
            "join [0 1] [2\n": 13, "join\n": 4, "join [0 1] [2]\n2 > 1\n- > 0 -\n": 27, "0 > 1\u20280 > 1\n": 5,
            "0 > 1\x0b": 5, "0 > 1\n\t": 6, "-\n": 1, "0 > -\n-": 7,
        }
        for text, where in told.items():
            self.assertEqual((text, self.look_at(text, 3)), (text, where))

    def test_the_columns_of_one_join_dependency_do_not_count_for_the_next_one(self):
        self.assertEqual(self.look_at("join [0 1]\njoin [0]\n", 2), 19)
        self.assertEqual(self.look_at("0 > 1\njoin [0]\n", 2), 14)
        self.assertEqual(self.look_at("join [0 1]\njoin [-]", 2), 19)

    def test_written_texts_and_their_beginnings(self):
        chance = random.Random(174)
        for count in range(1, 11):
            for turn in range(6):
                made = [some_dependency(chance, count) for _ in range(chance.randrange(5))]
                text = write_all(made)
                self.assertEqual(read_all(text, count), made)
                for at in range(len(text)):
                    found = self.look_at(text[:at], count)
                    self.assertTrue(type(found) is list or found == at)

    def test_changed_texts(self):
        chance = random.Random(175)
        seen = {list: 0, int: 0}
        for count in range(1, 11):
            for turn in range(100):
                text = write_all([some_dependency(chance, count) for _ in range(chance.randrange(1, 4))])
                text = changed(chance, text)
                seen[type(self.look_at(text, count))] += 1
                seen[type(self.look_at(changed(chance, text), count))] += 1
        self.assertGreater(min(seen.values()), 50)

    def test_4000_signs(self):
        chance = random.Random(176)
        start = time.process_time()
        made = []
        while len(write_all(made)) < 3900:
            made.append(some_dependency(chance, 10))
        made = made[:-1]
        text = write_all(made)
        self.assertEqual(read_all(text, 10), made)
        self.assertEqual(self.where(read_all, text + "0 > 1", 10), len(text) + 5)
        self.assertEqual(self.where(read_all, text + "\n", 10), len(text))
        self.assertEqual(self.where(read_all, "x" + text, 10), 0)
        self.assertEqual(len(read_all("- > -\n" * 666, 10)), 666)
        self.assertEqual(self.where(read_all, "0" * 4000, 10), 1)
        self.assertEqual(self.where(read_all, "\u0660" * 4000, 10), 0)
        self.assertLess(time.process_time() - start, 20)

    def test_a_new_list_each_time(self):
        read_all("0 > 1\n", 2).clear()
        self.assertEqual(len(read_all("0 > 1\n", 2)), 1)


if __name__ == "__main__":
    unittest.main()
