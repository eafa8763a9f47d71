"""Joins of several tables: points 1 to 5 and 30, and the heading joins.py."""
import itertools
import random
import time
import unittest

import plainly
from followsortable import joins
from followsortable.joins import agree, full, half_join, join_all
from followsortable.table import Table
from followsortable.trees import join_tree

BIG = 10 ** 40


def some_table(chance, columns, most, cells):
    return Table(columns, [[chance.choice(cells) for _ in columns] for _ in range(chance.randrange(most + 1))])


def some_tables(chance, count, many, most=6, cells=(-1, 0, BIG)):
    return [some_table(chance, plainly.some_set(chance, count, 0.5), most, cells) for _ in range(many)]


def of_one(chance, count, parts, most):
    """The projections of one table on some sets."""
    rows = [[chance.randrange(3) for _ in range(count)] for _ in range(chance.randrange(most + 1))]
    table = Table(range(count), rows)
    return [Table(part, plainly.projected(table, part)) for part in parts]


class Looking(unittest.TestCase):
    def unchanged(self, function, *tables):
        """What a function gives; the tables and the list of them stay, and it gives the same again."""
        before = [plainly.table_fields(table) for table in tables]
        told = list(tables)
        if function is half_join:
            found, again = function(*told), function(*told)
        else:
            found, again = function(told), function(tuple(told))
        self.assertEqual(found, again)
        self.assertEqual(len(told), len(tables))
        self.assertTrue(all(one is other for one, other in zip(told, tables)))
        self.assertEqual([plainly.table_fields(table) for table in tables], before)
        return found

    def assert_table(self, table, columns, rows):
        self.assertIs(type(table), Table)
        self.assertTrue(plainly.is_tuples((table.columns, table.rows)))
        self.assertEqual(plainly.table_fields(table), (tuple(columns), tuple(sorted(rows))))


class HalfJoin(Looking):
    def look_at(self, a, b):
        found = self.unchanged(half_join, a, b)
        shared = [column for column in a.columns if column in b.columns]
        there = plainly.projected(b, shared)
        rows = [row for row in a.rows if plainly.cells_of(a.columns, row, shared) in there]
        self.assert_table(found, a.columns, rows)
        return list(found.rows)

    def test_by_hand(self):
        a = Table([0, 1], [(1, 2), (3, 4), (5, 2)])
        self.assertEqual(self.look_at(a, Table([1, 2], [(2, 0), (2, 1), (7, 7)])), [(1, 2), (5, 2)])
        self.assertEqual(self.look_at(a, Table([0, 1, 5], [(1, 2, 3), (3, 2, 3)])), [(1, 2)])
        self.assertEqual(self.look_at(a, a), list(a.rows))
        self.assertEqual(self.look_at(a, Table([0, 1], [(3, 4), (9, 9)])), [(3, 4)])
        self.assertEqual(self.look_at(a, Table([0], [])), [])
        self.assertEqual(self.look_at(Table([0], []), a), [])

    def test_without_common_columns(self):
        a = Table([0, 1], [(1, 2), (3, 4)])
        self.assertEqual(self.look_at(a, Table([2], [(1,)])), list(a.rows))
        self.assertEqual(self.look_at(a, Table([2], [])), [])
        self.assertEqual(self.look_at(a, Table([], [()])), list(a.rows))
        self.assertEqual(self.look_at(a, Table([], [])), [])

    def test_without_columns(self):
        one, none = Table([], [()]), Table([], [])
        self.assertEqual(self.look_at(one, one), [()])
        self.assertEqual(self.look_at(one, none), [])
        self.assertEqual(self.look_at(none, one), [])
        self.assertEqual(self.look_at(one, Table([4], [(3,)])), [()])
        self.assertEqual(self.look_at(one, Table([4], [])), [])

    def test_many_tables(self):
        chance = random.Random(111)
        for turn in range(400):
            self.look_at(*some_tables(chance, 4, 2))

    def test_200_rows(self):
        chance = random.Random(112)
        a = Table(range(10), [[chance.randrange(9) for _ in range(10)] for _ in range(200)])
        b = Table((1, 4), [[chance.randrange(9) for _ in range(2)] for _ in range(200)])
        self.assertGreater(len(self.look_at(a, b)), 50)


class JoinAll(Looking):
    def look_at(self, *tables):
        found = self.unchanged(join_all, *tables)
        self.assert_table(found, *plainly.join_rows(tables))
        return list(found.rows)

    def test_by_hand(self):
        a = Table([0, 1], [(1, 2), (3, 4)])
        b = Table([1, 2], [(2, 5), (2, 6), (4, 7)])
        c = Table([2, 3], [(5, 0), (7, 1), (7, 2)])
        self.assertEqual(self.look_at(a), list(a.rows))
        self.assertEqual(self.look_at(a, b), [(1, 2, 5), (1, 2, 6), (3, 4, 7)])
        self.assertEqual(self.look_at(a, b, c), [(1, 2, 5, 0), (3, 4, 7, 1), (3, 4, 7, 2)])
        self.assertEqual(self.look_at(c, a, b), self.look_at(a, b, c))
        self.assertEqual(self.look_at(a, a, a), list(a.rows))
        self.assertEqual(self.look_at(a, Table([0, 1], [(3, 4), (5, 6)])), [(3, 4)])
        self.assertEqual(self.look_at(a, Table([5], [(8,), (9,)])), [(1, 2, 8), (1, 2, 9), (3, 4, 8), (3, 4, 9)])

    def test_without_rows_or_columns(self):
        a = Table([0, 1], [(1, 2), (3, 4)])
        self.assertEqual(self.look_at(a, Table([4], [])), [])
        self.assertEqual(self.look_at(a, Table([], [()])), list(a.rows))
        self.assertEqual(self.look_at(a, Table([], [])), [])
        self.assertEqual(self.look_at(Table([], [()])), [()])
        self.assertEqual(self.look_at(Table([], [])), [])
        self.assertEqual(self.look_at(Table([3], [])), [])
        self.assertEqual(join_all([Table([3], []), Table([0, 5], [(1, 2)])]).columns, (0, 3, 5))

    def test_many_tables(self):
        chance = random.Random(113)
        for turn in range(250):
            self.look_at(*some_tables(chance, 5, chance.randrange(1, 6), 5))

    def test_eight_tables_and_2000_rows(self):
        chance = random.Random(114)
        start = time.process_time()
        tables = [Table([0, at], [(row // 2, row) for row in range(14)]) for at in range(1, 9)]
        self.assertEqual(len(self.unchanged(join_all, *tables).rows), 7 * 2 ** 8)
        tables = [Table((at, at + 1), [(row, row) for row in range(200)]) for at in range(8)]
        self.assertEqual(len(self.look_at(*tables)), 200)
        wide = Table(range(10), [[chance.randrange(9) for _ in range(10)] for _ in range(200)])
        self.assertEqual(self.look_at(*[wide] * 8), list(wide.rows))
        self.assertEqual(len(self.unchanged(full, *[wide] * 8)), 8)
        self.assertLess(time.process_time() - start, 20)


class Agree(Looking):
    def look_at(self, *tables):
        found = self.unchanged(agree, *tables)
        expected = True
        for a, b in itertools.combinations(tables, 2):
            shared = [column for column in a.columns if column in b.columns]
            expected = expected and plainly.projected(a, shared) == plainly.projected(b, shared)
        self.assertIs(found, expected)
        return found

    def test_by_hand(self):
        a = Table([0, 1], [(1, 2), (3, 4)])
        self.assertIs(self.look_at(a), True)
        self.assertIs(self.look_at(a, a), True)
        self.assertIs(self.look_at(a, Table([1, 2], [(2, 5), (4, 5), (4, 6)])), True)
        self.assertIs(self.look_at(a, Table([1, 2], [(2, 5)])), False)
        self.assertIs(self.look_at(a, Table([1, 2], [(2, 5), (4, 5), (6, 5)])), False)
        self.assertIs(self.look_at(a, Table([0, 1], [(1, 4), (3, 2)])), False)
        # The first and the last one do not agree.
        self.assertIs(self.look_at(a, Table([1, 2], [(2, 5), (4, 6)]), Table([0, 2], [(1, 5), (2, 6)])), False)

    def test_without_common_columns(self):
        a = Table([0, 1], [(1, 2), (3, 4)])
        self.assertIs(self.look_at(a, Table([2], [(7,)])), True)
        self.assertIs(self.look_at(a, Table([2], [])), False)
        self.assertIs(self.look_at(Table([0], []), Table([2], [])), True)
        self.assertIs(self.look_at(a, Table([], [()])), True)
        self.assertIs(self.look_at(a, Table([], [])), False)
        self.assertIs(self.look_at(Table([], []), Table([], [()])), False)

    def test_many_tables(self):
        chance = random.Random(115)
        seen = {True: 0, False: 0}
        for turn in range(300):
            many = chance.randrange(1, 5)
            if turn % 2:
                tables = some_tables(chance, 3, many, 3, (0, 1))
            else:
                tables = of_one(chance, 3, [plainly.some_set(chance, 3, 0.5) for _ in range(many)], 6)
                self.assertIs(self.look_at(*tables), True)
            seen[self.look_at(*tables)] += 1
        self.assertGreater(min(seen.values()), 50)


class Full(Looking):
    def look_at(self, *tables):
        found = self.unchanged(full, *tables)
        self.assertIs(type(found), list)
        self.assertEqual(len(found), len(tables))
        columns, rows = plainly.join_rows(tables)
        for table, left in zip(tables, found):
            there = {plainly.cells_of(columns, row, table.columns) for row in rows}
            self.assert_table(left, table.columns, [row for row in table.rows if row in there])
        return [list(table.rows) for table in found]

    def test_by_hand(self):
        a = Table([0, 1], [(1, 2), (3, 4), (5, 6)])
        b = Table([1, 2], [(2, 5), (4, 7), (4, 8)])
        c = Table([2], [(5,), (8,), (9,)])
        self.assertEqual(self.look_at(a), [list(a.rows)])
        self.assertEqual(self.look_at(a, b, c), [[(1, 2), (3, 4)], [(2, 5), (4, 8)], [(5,), (8,)]])
        self.assertEqual(self.look_at(a, b, Table([3], [])), [[], [], []])
        self.assertEqual(self.look_at(a, Table([], [()])), [list(a.rows), [()]])
        self.assertEqual(self.look_at(a, Table([], [])), [[], []])
        self.assertEqual(self.look_at(a, a), [list(a.rows), list(a.rows)])

    def test_tables_that_agree_around_a_triangle(self):
        tables = [
            Table([0, 1], [(0, 0), (1, 1)]), Table([1, 2], [(0, 0), (1, 1)]), Table([0, 2], [(0, 1), (1, 0)]),
        ]
        self.assertIs(agree(tables), True)
        self.assertEqual(self.look_at(*tables), [[], [], []])

    def test_many_tables(self):
        chance = random.Random(116)
        for turn in range(250):
            self.look_at(*some_tables(chance, 5, chance.randrange(1, 6), 5, (0, 1, BIG)))

    def test_tables_that_agree_and_have_acyclic_columns_stay(self):
        chance = random.Random(117)
        stayed = 0
        for turn in range(400):
            many = chance.randrange(1, 6)
            parts = plainly.some_acyclic(chance, 6, many)
            if turn % 2:
                tables = of_one(chance, 6, parts, 8)
            else:
                tables = [some_table(chance, part, 4, (0, 1)) for part in parts]
            self.assertEqual(join_tree(parts)[0], "tree")
            if agree(tables):
                stayed += 1
                self.assertEqual([plainly.table_fields(table) for table in full(tables)],
                                 [plainly.table_fields(table) for table in tables])
                self.look_at(*tables)
        self.assertGreater(stayed, 200)

    def test_a_new_list_each_time(self):
        tables = [Table([0], [(1,)])]
        found = full(tables)
        self.assertIsNot(found, tables)
        found.clear()
        self.assertEqual(len(full(tables)), 1)
        self.assertEqual(len(tables), 1)

    def test_defined_here(self):
        for made in (half_join, join_all, agree, full):
            self.assertEqual(made.__module__, "followsortable.joins")
            self.assertIs(getattr(joins, made.__name__), made)


if __name__ == "__main__":
    unittest.main()
