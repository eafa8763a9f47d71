"""What tables keep: points 1 to 5, 27 and 28, and the heading exact.py."""
import itertools
import random
import unittest

import plainly
from followsortable import exact
from followsortable.dependency import Fd
from followsortable.exact import exact_table, table_fds
from followsortable.table import Table

BIG = 10 ** 40


def keeps(table, left, column):
    """Whether rows that agree on the left side agree in the column, for each two rows."""
    pairs = itertools.combinations(table.rows, 2)
    return all(r[column] == s[column] for r, s in pairs if plainly.agree(r, s, left))


def smallest(table):
    """The pairs that point 27 tells, ascending, found by going through all sets."""
    count = len(table.columns)
    found = []
    for column in range(count):
        telling = [left for left in plainly.subsets(range(count)) if keeps(table, left, column)]
        for left in telling:
            if column not in left and not any(set(other) < set(left) for other in telling):
                found.append((left, column))
    return sorted(found)


class TableFds(unittest.TestCase):
    def look_at(self, count, rows):
        table = Table(tuple(range(count)), rows)
        before = (table.columns, table.rows)
        found = table_fds(table)
        self.assertEqual((table.columns, table.rows), before)
        self.assertIs(type(found), list)
        self.assertTrue(all(type(fd) is Fd for fd in found))
        expected = smallest(table)
        self.assertEqual(plainly.all_fields(found), [("Fd", left, (column,)) for left, column in expected])
        self.assertEqual(table_fds(table), found)
        return expected

    def test_by_hand(self):
        self.assertEqual(self.look_at(3, [(1, 2, 3), (1, 2, 4), (5, 2, 3)]), [((), 1)])
        self.assertEqual(self.look_at(3, [(1, 1, 3), (2, 2, 4), (3, 1, 4)]), [((0,), 1), ((0,), 2), ((1, 2), 0)])
        self.assertEqual(self.look_at(2, [(0, 0), (0, 1), (1, 0), (1, 1)]), [])

    def test_no_rows_and_one_row(self):
        for count in range(1, 6):
            expected = [((), column) for column in range(count)]
            self.assertEqual(self.look_at(count, []), expected)
            self.assertEqual(self.look_at(count, [list(range(count))]), expected)

    def test_no_columns_beside_one(self):
        self.assertEqual(self.look_at(1, [(3,), (4,)]), [])
        self.assertEqual(self.look_at(1, [(3,), (3,)]), [((), 0)])

    def test_numbers_far_apart_and_below_0(self):
        rows = [(BIG, -1, 0), (-BIG, -1, BIG), (BIG + 1, -2, -BIG), (BIG, -2, 0)]
        self.assertEqual(self.look_at(3, rows), [((0,), 2), ((2,), 0)])
        self.assertEqual(self.look_at(2, [(-1, -BIG), (-2, BIG), (-3, -BIG)]), [((0,), 1)])

    def test_in_ascending_order(self):
        found = self.look_at(4, [(0, 0, 0, 0), (1, 1, 0, 1), (2, 1, 1, 0), (3, 0, 1, 1)])
        pairs = [((1, 2), 0), ((1, 2), 3), ((1, 3), 0), ((1, 3), 2), ((2, 3), 0), ((2, 3), 1)]
        self.assertEqual(found, [((0,), 1), ((0,), 2), ((0,), 3)] + pairs)
        found = self.look_at(4, [(0, 0, 0, 5), (0, 0, 1, 6), (0, 1, 0, 7), (1, 1, 1, 8)])
        self.assertEqual(found, [((1, 2), 0), ((1, 2), 3), ((3,), 0), ((3,), 1), ((3,), 2)])

    def test_many_tables(self):
        chance = random.Random(91)
        for turn in range(250):
            count = chance.randrange(1, 6)
            cells = chance.choice(((0, 1), (-1, 0, BIG), (0, 1, 2, 3, 4)))
            rows = [[chance.choice(cells) for _ in range(count)] for _ in range(chance.randrange(12))]
            self.look_at(count, rows)

    def test_ten_columns_and_many_rows(self):
        chance = random.Random(92)
        rows = [[chance.randrange(30) for _ in range(10)] for _ in range(200)]
        found = table_fds(Table(range(10), rows))
        self.assertEqual(plainly.all_fields(found), sorted(plainly.all_fields(found)))
        for fd in chance.sample(found, 20):
            self.assertTrue(plainly.keeps(10, [tuple(row) for row in rows], fd))
            for column in fd.left:
                smaller = Fd([other for other in fd.left if other != column], fd.right)
                self.assertFalse(plainly.keeps(10, [tuple(row) for row in rows], smaller))

    def test_a_new_list_each_time(self):
        table = Table([0, 1], [(0, 1), (1, 1)])
        table_fds(table).clear()
        self.assertEqual(table_fds(table), [Fd([], [1])])


class ExactTable(unittest.TestCase):
    def look_at(self, count, fds):
        before = plainly.all_fields(fds)
        table = exact_table(count, fds)
        self.assertEqual(plainly.all_fields(fds), before)
        self.assertEqual(exact_table(count, tuple(fds)), table)
        self.assertIs(type(table), Table)
        self.assertEqual(table.columns, tuple(range(count)))
        told = plainly.closures(count, fds)
        for left in told:
            reached = tuple(column for column in range(count) if keeps(table, left, column))
            self.assertEqual(reached, told[left])
        return table

    def test_by_hand(self):
        self.assertEqual(len(self.look_at(1, [Fd([], [0])]).rows), 1)
        self.assertGreater(len(self.look_at(1, []).rows), 1)
        self.assertEqual(len(self.look_at(3, [Fd([], [0, 1, 2])]).rows), 1)
        self.look_at(3, [Fd([0], [1]), Fd([1], [2])])
        self.look_at(3, [Fd([], [0])])
        self.look_at(3, [Fd([], []), Fd([0], [0])])

    def test_many_lists(self):
        chance = random.Random(93)
        for count in range(1, 6):
            for turn in range(30):
                fds = plainly.some_fds(chance, count, turn % 8, chance.choice((0.2, 0.4, 0.6)))
                table = self.look_at(count, fds)
                self.assertTrue(plainly.say_the_same(table_fds(table), fds))

    def test_ten_columns(self):
        chance = random.Random(94)
        for many in (0, 3, 10, 40):
            fds = plainly.some_fds(chance, 10, many, 0.25)
            table = exact_table(10, fds)
            self.assertTrue(all(plainly.keeps(10, table.rows, fd) for fd in fds))
            self.assertTrue(plainly.say_the_same(table_fds(table), fds))
        fds = [Fd(left, range(10)) for left in list(itertools.combinations(range(10), 5))[::7]]
        self.assertTrue(plainly.say_the_same(table_fds(exact_table(10, fds)), fds))

    def test_defined_here(self):
        for made in (table_fds, exact_table):
            self.assertEqual(made.__module__, "followsortable.exact")
            self.assertIs(getattr(exact, made.__name__), made)


if __name__ == "__main__":
    unittest.main()
