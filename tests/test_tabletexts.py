"""The texts of tables: points 1 to 5 and 41, and the heading tabletexts.py."""
import random
import re
import time
import unittest

import plainly
from followsortable import tabletexts
from followsortable.errors import InvalidText
from followsortable.table import Table
from followsortable.tabletexts import read_table, write_table

NINES = 10 ** 30 - 1
SIGNS = list("0123456789 -\ncolumns") + list("+_,.x\t\r\x0b\x0c\x1c\x1d\x85\x00") + [
    "\u00a0", "\u2003", "\u2028", "\u0661", "\u00b2", "\uff11", "\u2212",
]
NUMBER = re.compile("0|-?[1-9][0-9]*")
COLUMNS = re.compile("columns(?: [0-9])*")


def some_table(chance, most=6):
    columns = plainly.some_set(chance, 10, chance.choice((0, 0.1, 0.3, 1)))
    cells = chance.choice(((0, 1, 2), (-1, 0, 10, -10, 99), (NINES, -NINES, 0, 5, -5)))
    return Table(columns, [[chance.choice(cells) for _ in columns] for _ in range(chance.randrange(most))])


def text_of(table):
    lines = ["columns" + "".join(" " + str(column) for column in table.columns)]
    lines += [" ".join(str(cell) for cell in row) if row else "-" for row in table.rows]
    return "".join(line + "\n" for line in lines)


def judged(text):
    """The columns and the rows that a text tells, or the index that point 41 tells."""
    where, columns, rows = 0, None, []
    lines = text.split("\n")
    for at, line in enumerate(lines):
        if at == len(lines) - 1 and line == "":
            break
        if at == 0:
            if not COLUMNS.fullmatch(line):
                return 0
            columns = [int(word) for word in line.split(" ")[1:]]
            if any(a >= b for a, b in zip(columns, columns[1:])):
                return 0
        else:
            words = [] if line == "-" else line.split(" ")
            if len(words) != len(columns) or not all(NUMBER.fullmatch(word) for word in words):
                return where
            row = tuple(int(word) for word in words)
            if rows and row <= rows[-1]:
                return where
            rows.append(row)
        where += len(line) + 1
    if columns is None or not text.endswith("\n"):
        return len(text)
    return (tuple(columns), tuple(rows))


class Write(unittest.TestCase):
    def test_by_hand(self):
        self.assertEqual(write_table(Table([0, 2], [(5, -3), (0, 10)])), "columns 0 2\n0 10\n5 -3\n")
        self.assertEqual(write_table(Table([], [])), "columns\n")
        self.assertEqual(write_table(Table([], [()])), "columns\n-\n")
        self.assertEqual(write_table(Table([4], [])), "columns 4\n")
        self.assertEqual(write_table(Table([4], [(-7,), (0,)])), "columns 4\n-7\n0\n")
        self.assertEqual(write_table(Table([1], [(NINES,), (-NINES,)])), "columns 1\n-" + "9" * 30 + "\n" + "9" * 30 + "\n")
        self.assertEqual(write_table(Table(range(10), [range(10)])), "columns 0 1 2 3 4 5 6 7 8 9\n0 1 2 3 4 5 6 7 8 9\n")

    def test_many(self):
        chance = random.Random(181)
        for turn in range(300):
            table = some_table(chance)
            before = plainly.table_fields(table)
            self.assertEqual(write_table(table), text_of(table))
            self.assertEqual(plainly.table_fields(table), before)


class Read(unittest.TestCase):
    def look_at(self, text):
        """The fields of the table that is read, or where there is none, compared with the definition."""
        expected = judged(text)
        if type(expected) is tuple:
            table = read_table(text)
            self.assertIs(type(table), Table)
            self.assertEqual(plainly.table_fields(table), expected)
            self.assertEqual(read_table(text), table)
            self.assertEqual(write_table(table), text)
            return expected
        with self.assertRaises(InvalidText) as caught:
            read_table(text)
        self.assertIs(type(caught.exception), InvalidText)
        self.assertEqual(vars(caught.exception), {"where": expected})
        return expected

    def test_by_hand(self):
        told = {
            "columns 0 2\n0 10\n5 -3\n": ((0, 2), ((0, 10), (5, -3))),
            "columns\n": ((), ()), "columns\n-\n": ((), ((),)), "columns 4\n": ((4,), ()),
            "columns 4\n-7\n0\n": ((4,), ((-7,), (0,))),
            "columns 9\n" + "9" * 30 + "\n": ((9,), ((NINES,),)),
            "columns 9\n-" + "9" * 30 + "\n": ((9,), ((-NINES,),)),
            "columns 0 1\n-1 -1\n-1 0\n0 -1\n9 0\n10 -5\n": ((0, 1), ((-1, -1), (-1, 0), (0, -1), (9, 0), (10, -5))),
        }
        for text, fields in told.items():
            self.assertEqual((text, self.look_at(text)), (text, fields))

    def test_lines_of_columns_that_are_none(self):
        for line in (
            "", " ", "column", "Columns", "columns ", " columns", "columns  0", "columns 0 ", "columns 0  1", "columns\t0",
            "columns 0\t", "columns 1 0", "columns 0 0", "columns 0 1 1", "columns 10", "columns 9 10", "columns -1",
            "columns -0", "columns 00", "columns 01", "columns +1", "columns x", "columns -", "columns 0,1", "columns0",
            "columns 0 -", "columns \u0661", "columns \u00b2", "columns\u00a00", "columns 0\r", "columns 0\x0b",
            "columns " + "1" * 30, "0 1", "-", "columns columns", "columns 3 2 1", "columns \uff11",
        ):
            for more in ("\n", "\n0\n", "\n0", "\n-\n", "\n\n"):
                self.assertEqual((line, self.look_at(line + more)), (line, 0))
            # A line that is not so counts as soon as it is there, with or without its newline.
            self.assertEqual((line, self.look_at(line)), (line, 0))

    def test_rows_that_are_none(self):
        head = "columns 0 3\n1 2\n"
        for line in (
            "", " ", "-", "1", "2", "2 3 4", "1 2", "0 9", "1 1", "-1 5", "1 -3", "2  3", " 2 3", "2 3 ", "2\t3", "2,3",
            "02 3", "2 03", "2 00", "-0 3", "2 -0", "+2 3", "2 +3", "2 --3", "2 -", "- 3", "2 - 3", "2 3\r", "2 3\x0b",
            "2 x", "2 \u0661", "\u00b2 3", "2 3\u2028", "2.0 3", "2 1_0", "2 0x1", "2 -03", "\uff12 3", "2 \u22123",
        ):
            # Nothing behind the last newline is no line.
            for more in ("\n", "", "\n9 9\n", "\n9 9") if line else ("\n", "\n9 9\n", "\n9 9"):
                self.assertEqual((line, self.look_at(head + line + more)), (line, len(head)))

    def test_tables_without_columns(self):
        self.assertEqual(self.look_at("columns\n\n"), 8)
        self.assertEqual(self.look_at("columns\n-\n-\n"), 10)
        self.assertEqual(self.look_at("columns\n-\n\n"), 10)
        self.assertEqual(self.look_at("columns\n0\n"), 8)
        self.assertEqual(self.look_at("columns\n--\n"), 8)
        self.assertEqual(self.look_at("columns\n- \n"), 8)
        self.assertEqual(self.look_at("columns 0\n-\n"), 10)
        self.assertEqual(self.look_at("columns 0\n\n"), 10)

    def test_a_missing_last_newline_and_the_empty_text(self):
        self.assertEqual(self.look_at(""), 0)
        self.assertEqual(self.look_at("\n"), 0)
        self.assertEqual(self.look_at("columns"), 7)
        self.assertEqual(self.look_at("columns 0 5"), 11)
        self.assertEqual(self.look_at("columns 0\n1"), 11)
        self.assertEqual(self.look_at("columns 0\n1\n2"), 13)
        self.assertEqual(self.look_at("columns\n-"), 9)
        self.assertEqual(self.look_at("columns 0\n1\n1"), 12)
        self.assertEqual(self.look_at("columns 0\n1\n\n"), 12)
        self.assertEqual(self.look_at("columns 0\n1\n\n2\n"), 12)
        self.assertEqual(self.look_at("columns 0\n1\nx"), 12)
        self.assertEqual(self.look_at("columns 0\n1\ncolumns 0\n"), 12)
        self.assertEqual(self.look_at("columns 0\n1\n "), 12)

    def test_rows_and_columns_in_another_order(self):
        self.assertEqual(self.look_at("columns 0\n2\n1\n"), 12)
        self.assertEqual(self.look_at("columns 0\n9\n10\n"), ((0,), ((9,), (10,))))
        self.assertEqual(self.look_at("columns 0\n10\n9\n"), 13)
        self.assertEqual(self.look_at("columns 0\n-1\n-2\n"), 13)
        self.assertEqual(self.look_at("columns 0\n1\n3\n2\n2\n"), 14)
        self.assertEqual(self.look_at("columns 2 0\n1 1\n"), 0)

    def test_written_texts_and_their_beginnings(self):
        chance = random.Random(182)
        for turn in range(80):
            table = some_table(chance)
            text = write_table(table)
            self.assertEqual(read_table(text), table)
            for at in range(len(text)):
                self.look_at(text[:at])

    def test_changed_texts(self):
        chance = random.Random(183)
        seen = {tuple: 0, int: 0}
        for turn in range(3000):
            text = write_table(some_table(chance))
            for again in range(2):
                at = chance.randrange(len(text) + 1)
                sign = chance.choice(SIGNS if turn % 2 else SIGNS[:13])
                text = chance.choice((
                    text[:at] + text[at + 1:], text[:at] + sign + text[at:], text[:at] + sign + text[at + 1:],
                    text[:at] + text[at + 1:at + 2] + text[at:at + 1] + text[at + 2:],
                ))
                seen[type(self.look_at(text))] += 1
        self.assertGreater(min(seen.values()), 300)

    def test_changed_lines(self):
        chance = random.Random(184)
        for turn in range(1500):
            lines = write_table(some_table(chance)).split("\n")
            at, other = chance.randrange(len(lines)), chance.randrange(len(lines))
            turn = chance.randrange(4)
            if turn == 0:
                lines[at], lines[other] = lines[other], lines[at]
            elif turn == 1:
                lines.insert(at, lines[other])
            elif turn == 2:
                del lines[at]
            else:
                words = lines[at].split(" ")
                words.insert(chance.randrange(len(words) + 1), chance.choice(("0", "-", "7", "-0", "10", "", "007")))
                lines[at] = " ".join(words)
            self.look_at("\n".join(lines))

    def test_200_rows_and_20000_signs(self):
        start = time.process_time()
        chance = random.Random(185)
        rows = [[chance.randrange(-10 ** 8, 10 ** 8) for _ in range(10)] for _ in range(200)]
        table = Table(range(10), rows)
        text = write_table(table)
        self.assertLess(len(text), 20001)
        self.assertEqual(read_table(text), table)
        self.assertEqual(self.look_at(text + "-"), len(text))
        self.assertEqual(self.look_at("\n" * 20000), 0)
        self.assertEqual(self.look_at("columns 0\n" + "0 " * 9000), 10)
        self.assertEqual(self.look_at("columns " + "0 " * 9000), 0)
        self.assertLess(time.process_time() - start, 20)

    def test_defined_here(self):
        for made in (write_table, read_table):
            self.assertEqual(made.__module__, "followsortable.tabletexts")
            self.assertIs(getattr(tabletexts, made.__name__), made)


if __name__ == "__main__":
    unittest.main()
