"""Tables, their projections and joins: points 3, 5, 7 and 8, and the heading table.py."""
import itertools
import random
import unittest

from followsortable.dependency import Fd
from followsortable.errors import InvalidTable
from followsortable.table import Table, join, keeps, project

BIG = 2 ** 64 + 1


class Alike:
    """An object of another kind with the fields of a table."""

    columns = (0,)
    rows = ((1,),)


class Equal:
    """An object that says of itself to be equal to everything."""

    def __eq__(self, other):
        return True


def some_tables():
    """Tables with columns from 0 to 3 and few values, so that many rows agree."""
    chance = random.Random(7)
    tables = []
    for size in range(5):
        for columns in itertools.combinations(range(4), size):
            for many in (0, 1, 3, 9):
                rows = [[chance.choice((-1, 0, BIG)) for column in columns] for row in range(many)]
                tables.append(Table(columns, rows))
    return tables


def cells(table, row, columns):
    """The cells of a row in some columns, looked up by column."""
    return tuple(dict(zip(table.columns, row))[column] for column in columns)


class Tables(unittest.TestCase):
    def test_no_columns(self):
        self.assertEqual(vars(Table([], [])), {"columns": (), "rows": ()})
        self.assertEqual(vars(Table([], [()])), {"columns": (), "rows": ((),)})
        self.assertEqual(vars(Table((), [[], (), []])), {"columns": (), "rows": ((),)})

    def test_no_rows(self):
        self.assertEqual(vars(Table([0], [])), {"columns": (0,), "rows": ()})
        self.assertEqual(vars(Table([2, 5, 9], ())), {"columns": (2, 5, 9), "rows": ()})

    def test_one_column(self):
        made = Table([4], [[3], (-2,), [3], (BIG,), (-BIG,)])
        self.assertEqual(vars(made), {"columns": (4,), "rows": ((-BIG,), (-2,), (3,), (BIG,))})

    def test_several_columns(self):
        made = Table((0, 1, 3), [(2, 1, 0), [1, 2, 5], (1, 2, -5), [2, 1, 0], (1, -9, 7)])
        self.assertEqual(made.columns, (0, 1, 3))
        self.assertEqual(made.rows, ((1, -9, 7), (1, 2, -5), (1, 2, 5), (2, 1, 0)))

    def test_rows_are_tuples_in_a_tuple(self):
        made = Table([0, 1], [[1, 2], [0, 0]])
        self.assertIs(type(made.columns), tuple)
        self.assertIs(type(made.rows), tuple)
        self.assertEqual([type(row) for row in made.rows], [tuple, tuple])

    def test_rows_in_any_order_and_with_repeats(self):
        chance = random.Random(3)
        rows = [(chance.randrange(-3, 3), chance.choice((-BIG, 0, BIG))) for row in range(200)]
        made = Table([1, 2], rows)
        self.assertEqual(list(made.rows), sorted(set(rows)))
        chance.shuffle(rows)
        self.assertEqual(Table([1, 2], [list(row) for row in rows] + rows), made)

    def test_lists_are_copied(self):
        columns, row = [0, 1], [5, 6]
        rows = [row, (1, 2)]
        made = Table(columns, rows)
        self.assertEqual((columns, rows), ([0, 1], [[5, 6], (1, 2)]))
        columns.append(2)
        row[0] = 9
        row.append(0)
        rows.clear()
        self.assertEqual((made.columns, made.rows), ((0, 1), ((1, 2), (5, 6))))

    def test_equal(self):
        self.assertIs(Table([0, 1], [[1, 2], [0, 0]]) == Table((0, 1), ((0, 0), (1, 2), (0, 0))), True)
        self.assertIs(Table([0, 1], [[1, 2]]) != Table([0, 1], [(1, 2)]), False)
        self.assertIs(Table([], []) == Table([], []), True)

    def test_not_equal(self):
        told = Table([0, 1], [[1, 2], [0, 0]])
        others = [
            Table([0, 2], [[1, 2], [0, 0]]),
            Table([0, 1], [[1, 2]]),
            Table([0, 1], [[1, 2], [0, 1]]),
            Table([0, 1], []),
            Table([], []),
            Table([0, 1], [[2, 1], [0, 0]]),
        ]
        for other in others:
            self.assertIs(told == other, False)
            self.assertIs(other == told, False)
            self.assertIs(told != other, True)
        self.assertIs(Table([], []) == Table([], [()]), False)
        self.assertIs(Table([0], []) == Table([1], []), False)

    def test_objects_of_another_kind(self):
        told = Table([0], [[1]])
        others = (((0,), ((1,),)), told.rows, told.columns, 0, 1, None, "", [], {}, Fd([0], []), Alike(), Equal())
        for other in others:
            self.assertIs(told == other, False)

    def test_methods_are_defined_in_the_class(self):
        self.assertIn("__init__", vars(Table))
        self.assertIn("__eq__", vars(Table))
        for made in (Table, project, join, keeps):
            self.assertEqual(made.__module__, "followsortable.table")


class WrongTables(unittest.TestCase):
    def assert_invalid(self, columns, rows):
        with self.assertRaises(InvalidTable):
            Table(columns, rows)

    def test_columns(self):
        for columns in ([1, 0], [0, 2, 1], [9, 0], (3, 2)):
            self.assert_invalid(columns, [])
            self.assert_invalid(columns, [list(columns)])
        for columns in ([0, 0], [0, 1, 1], [0, 1, 0], (4, 4)):
            self.assert_invalid(columns, [])
        for columns in ([-1], [-1, 0], [-3, -2], [0, -1], (-BIG,)):
            self.assert_invalid(columns, [])

    def test_rows(self):
        self.assert_invalid([0], [[]])
        self.assert_invalid([0], [[1, 2]])
        self.assert_invalid([], [[1]])
        self.assert_invalid([0, 1], [[1, 2], [1], [1, 2]])
        self.assert_invalid([0, 1], [(1, 2), (1, 2, 3)])
        self.assert_invalid([0, 1], [(1, 2), ()])

    def test_wrong_arguments_stay(self):
        columns, rows = [0, 1], [[1], [3, 2]]
        self.assert_invalid(columns, rows)
        self.assertEqual((columns, rows), ([0, 1], [[1], [3, 2]]))

    def test_somewhat_beyond_the_bounds(self):
        self.assertEqual(Table([10, 12], [[1, 2]]).columns, (10, 12))
        self.assertEqual(len(Table([0], [[row] for row in range(300)]).rows), 300)


class Project(unittest.TestCase):
    def test_by_hand(self):
        table = Table([0, 2, 5], [(1, 2, 3), (1, 4, 3), (0, 2, 9)])
        self.assertEqual(project(table, (0, 5)), Table([0, 5], [(1, 3), (0, 9)]))
        self.assertEqual(project(table, (2,)), Table([2], [(2,), (4,)]))
        self.assertEqual(project(table, (0, 2, 5)), table)
        self.assertEqual(project(table, ()), Table([], [()]))

    def test_no_rows(self):
        table = Table([0, 1], [])
        for columns in ((), (0,), (1,), (0, 1)):
            self.assertEqual(project(table, columns), Table(columns, []))

    def test_no_columns(self):
        self.assertEqual(project(Table([], [()]), ()), Table([], [()]))
        self.assertEqual(project(Table([], []), ()), Table([], []))

    def test_as_told(self):
        for table in some_tables():
            before = (table.columns, table.rows)
            for size in range(len(table.columns) + 1):
                for columns in itertools.combinations(table.columns, size):
                    found = project(table, columns)
                    rows = {cells(table, row, columns) for row in table.rows}
                    self.assertEqual((found.columns, list(found.rows)), (columns, sorted(rows)))
            self.assertEqual((table.columns, table.rows), before)


class Join(unittest.TestCase):
    def test_by_hand(self):
        a = Table([0, 1], [(1, 2), (3, 2), (5, 6)])
        b = Table([1, 2], [(2, 7), (2, 8), (9, 9)])
        both = Table([0, 1, 2], [(1, 2, 7), (1, 2, 8), (3, 2, 7), (3, 2, 8)])
        self.assertEqual(join(a, b), both)
        self.assertEqual(join(b, a), both)

    def test_columns_that_lie_between_one_another(self):
        a = Table([1, 4], [(10, 40)])
        b = Table([0, 2, 4], [(0, 20, 40), (0, 20, 41)])
        self.assertEqual(join(a, b), Table([0, 1, 2, 4], [(0, 10, 20, 40)]))
        self.assertEqual(join(b, a), Table([0, 1, 2, 4], [(0, 10, 20, 40)]))

    def test_no_common_columns(self):
        a = Table([0], [(1,), (2,)])
        b = Table([1], [(5,), (-6,)])
        self.assertEqual(join(a, b), Table([0, 1], [(1, -6), (1, 5), (2, -6), (2, 5)]))
        self.assertEqual(join(b, a), join(a, b))

    def test_the_same_columns(self):
        a = Table([0, 1], [(1, 1), (2, BIG)])
        b = Table([0, 1], [(2, BIG), (2, 3)])
        self.assertEqual(join(a, b), Table([0, 1], [(2, BIG)]))
        self.assertEqual(join(a, a), a)

    def test_no_rows(self):
        a = Table([0, 1], [])
        for b in (Table([1, 2], [(1, 2)]), Table([1, 2], []), Table([2], [(1,)])):
            columns = sorted(set(a.columns + b.columns))
            self.assertEqual(join(a, b), Table(columns, []))
            self.assertEqual(join(b, a), Table(columns, []))

    def test_no_columns(self):
        a = Table([3], [(1,), (2,)])
        self.assertEqual(join(a, Table([], [()])), a)
        self.assertEqual(join(Table([], [()]), a), a)
        self.assertEqual(join(a, Table([], [])), Table([3], []))
        self.assertEqual(join(Table([], []), a), Table([3], []))

    def test_as_told(self):
        tables = some_tables()
        for a in tables[::3]:
            for b in tables[::2]:
                before = (a.columns, a.rows, b.columns, b.rows)
                columns = tuple(sorted(set(a.columns) | set(b.columns)))
                rows = []
                for row in itertools.product((-1, 0, BIG), repeat=len(columns)):
                    told = dict(zip(columns, row))
                    in_a = tuple(told[column] for column in a.columns) in a.rows
                    if in_a and tuple(told[column] for column in b.columns) in b.rows:
                        rows.append(row)
                found = join(a, b)
                self.assertEqual((found.columns, list(found.rows)), (columns, rows))
                self.assertEqual((a.columns, a.rows, b.columns, b.rows), before)

    def test_two_tables_of_many_rows(self):
        a = Table([0, 1], [(row, row % 20) for row in range(200)])
        b = Table([1, 2], [(row % 20, row) for row in range(200)])
        found = join(a, b)
        self.assertEqual(len(found.rows), 2000)
        self.assertEqual(found.rows[0], (0, 0, 0))
        self.assertEqual(found.rows[-1], (199, 19, 199))


if __name__ == "__main__":
    unittest.main()
