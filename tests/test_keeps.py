"""The dependencies that a table keeps: points 5 and 9."""
import itertools
import random
import unittest

from followsortable.dependency import Fd, Jd, Mvd
from followsortable.sets import all_sets, whole
from followsortable.table import Table, join, keeps, project

BIG = 2 ** 64


def agree(r, s, columns):
    return all(r[column] == s[column] for column in columns)


def keeps_fd_as_told(table, fd):
    pairs = itertools.product(table.rows, repeat=2)
    return all(agree(r, s, fd.right) for r, s in pairs if agree(r, s, fd.left))


def keeps_mvd_as_told(table, mvd):
    both = set(mvd.left) | set(mvd.right)
    others = [column for column in table.columns if column not in both]
    for r, s in itertools.product(table.rows, repeat=2):
        if agree(r, s, mvd.left):
            if not any(agree(t, r, both) and agree(t, s, others) for t in table.rows):
                return False
    return True


def keeps_jd_as_told(table, jd):
    """Whether each row of cells whose cells in the parts are there is a row."""
    values = [sorted({row[column] for row in table.rows}) for column in table.columns]
    there = [{tuple(row[c] for c in part) for row in table.rows} for part in jd.parts]
    for row in itertools.product(*values):
        joined = all(tuple(row[c] for c in part) in rows for part, rows in zip(jd.parts, there))
        if joined and row not in table.rows:
            return False
    return True


def joins_to_more(table, parts, told=None):
    """Whether the projections join to a row that is not in the table, by search."""
    told = told or {}
    if not parts:
        return tuple(told[column] for column in table.columns) not in table.rows
    # The parts that share most columns with those before come first.
    part = max(parts, key=lambda some: len(set(some) & set(told)))
    rest = [some for some in parts if some != part]
    for row in sorted({tuple(row[column] for column in part) for row in table.rows}):
        cells = dict(zip(part, row))
        if all(told.get(column, cells[column]) == cells[column] for column in part):
            if joins_to_more(table, rest, {**told, **cells}):
                return True
    return False


def all_tables(count):
    """Every table with the cells 0 and 1."""
    rows = list(itertools.product((0, 1), repeat=count))
    return [Table(whole(count), list(chosen)) for chosen in all_sets(tuple(rows))]


def some_tables(count, many, chance):
    """Tables with three values; among them such that keep some dependencies."""
    tables = []
    for turn in range(many):
        size = chance.randrange(1, 12)
        rows = [[chance.choice((-1, 0, BIG)) for column in range(count)] for row in range(size)]
        table = Table(whole(count), rows)
        if turn % 2:
            left = chance.choice(all_sets(whole(count)))
            right = tuple(sorted(set(whole(count)) - set(left)) + list(left[:1]))
            table = join(project(table, left), project(table, tuple(sorted(right))))
        tables.append(table)
    return tables


def join_dependencies(count, most):
    """Every join dependency with at most so many parts, the same part twice included."""
    found = []
    for many in range(1, most + 1):
        for parts in itertools.product(all_sets(whole(count)), repeat=many):
            if set().union(*parts) == set(whole(count)):
                found.append(Jd(parts))
    return found


class Fds(unittest.TestCase):
    def test_by_hand(self):
        table = Table([0, 1, 2], [(1, 2, 3), (1, 2, 4), (5, 2, 3)])
        self.assertIs(keeps(table, Fd([0], [1])), True)
        self.assertIs(keeps(table, Fd([0], [2])), False)
        self.assertIs(keeps(table, Fd([1], [0])), False)
        self.assertIs(keeps(table, Fd([0, 2], [1])), True)
        self.assertIs(keeps(table, Fd([0], [1, 2])), False)

    def test_empty_sides_and_common_columns(self):
        table = Table([0, 1], [(1, 2), (3, 2)])
        self.assertIs(keeps(table, Fd([], [1])), True)
        self.assertIs(keeps(table, Fd([], [0])), False)
        self.assertIs(keeps(table, Fd([], [])), True)
        self.assertIs(keeps(table, Fd([1], [])), True)
        self.assertIs(keeps(table, Fd([0, 1], [1])), True)
        self.assertIs(keeps(table, Fd([1], [0, 1])), False)
        self.assertIs(keeps(table, Fd([0], [0, 1])), True)

    def test_every_small_table(self):
        sides = all_sets(whole(3))
        for table in all_tables(3):
            for left, right in itertools.product(sides, repeat=2):
                fd = Fd(left, right)
                self.assertIs(keeps(table, fd), keeps_fd_as_told(table, fd))

    def test_more_values(self):
        chance = random.Random(1)
        sides = all_sets(whole(4))
        for table in some_tables(4, 60, chance):
            for left, right in chance.sample(list(itertools.product(sides, repeat=2)), 40):
                fd = Fd(left, right)
                self.assertIs(keeps(table, fd), keeps_fd_as_told(table, fd))


class Mvds(unittest.TestCase):
    def test_by_hand(self):
        table = Table([0, 1, 2], [(0, 1, 1), (0, 1, 2), (0, 2, 1), (0, 2, 2), (5, 5, 5)])
        self.assertIs(keeps(table, Mvd([0], [1])), True)
        self.assertIs(keeps(table, Mvd([0], [2])), True)
        self.assertIs(keeps(table, Mvd([], [0])), False)
        table = Table([0, 1, 2], [(0, 1, 1), (0, 1, 2), (0, 2, 1), (5, 5, 5)])
        self.assertIs(keeps(table, Mvd([0], [1])), False)
        self.assertIs(keeps(table, Mvd([0], [2])), False)

    def test_empty_sides_and_common_columns(self):
        product = Table([0, 1], [(1, 2), (1, 3), (4, 2), (4, 3)])
        broken = Table([0, 1], [(1, 2), (1, 3), (4, 2)])
        for mvd in (Mvd([], [0]), Mvd([], [1])):
            self.assertIs(keeps(product, mvd), True)
            self.assertIs(keeps(broken, mvd), False)
        for mvd in (Mvd([], []), Mvd([0], []), Mvd([], [0, 1]), Mvd([0], [0]), Mvd([0], [0, 1])):
            self.assertIs(keeps(product, mvd), True)
            self.assertIs(keeps(broken, mvd), True)

    def test_every_small_table(self):
        sides = all_sets(whole(3))
        for table in all_tables(3):
            for left, right in itertools.product(sides, repeat=2):
                mvd = Mvd(left, right)
                self.assertIs(keeps(table, mvd), keeps_mvd_as_told(table, mvd))

    def test_more_values(self):
        chance = random.Random(2)
        sides = all_sets(whole(4))
        for table in some_tables(4, 60, chance):
            for left, right in chance.sample(list(itertools.product(sides, repeat=2)), 40):
                mvd = Mvd(left, right)
                self.assertIs(keeps(table, mvd), keeps_mvd_as_told(table, mvd))


class Jds(unittest.TestCase):
    # The rows of a triangle that only all three of its pairs together show.
    TRIANGLE = Table([0, 1, 2], [(0, 0, 1), (0, 1, 0), (1, 0, 0)])

    def test_by_hand(self):
        table = Table([0, 1, 2], [(0, 1, 1), (0, 1, 2), (0, 2, 1), (0, 2, 2)])
        self.assertIs(keeps(table, Jd([[0, 1], [0, 2]])), True)
        self.assertIs(keeps(table, Jd([[0], [1], [2]])), True)
        table = Table([0, 1, 2], [(0, 1, 1), (0, 1, 2), (0, 2, 1)])
        self.assertIs(keeps(table, Jd([[0, 1], [0, 2]])), False)
        self.assertIs(keeps(table, Jd([[0], [1, 2]])), True)
        self.assertIs(keeps(table, Jd([[0, 2], [1]])), False)
        self.assertIs(keeps(table, Jd([[0, 1], [0, 2], [1, 2]])), True)

    def test_three_parts_that_no_two_replace(self):
        pairs = [[0, 1], [1, 2], [0, 2]]
        self.assertIs(keeps(self.TRIANGLE, Jd(pairs)), False)
        more = Table([0, 1, 2], list(self.TRIANGLE.rows) + [(0, 0, 0)])
        self.assertIs(keeps(more, Jd(pairs)), True)
        for two in itertools.combinations(pairs, 2):
            self.assertIs(keeps(more, Jd(two)), False)

    def test_one_part_the_same_part_twice_and_the_whole_set(self):
        for table in (self.TRIANGLE, Table([0, 1, 2], [(5, -1, BIG)])):
            self.assertIs(keeps(table, Jd([[0, 1, 2]])), True)
            self.assertIs(keeps(table, Jd([[0, 1, 2], [0, 1, 2]])), True)
            self.assertIs(keeps(table, Jd([[0], [2, 1, 0], [1]])), True)
            self.assertIs(keeps(table, Jd([[], [0, 1, 2]])), True)
        self.assertIs(keeps(self.TRIANGLE, Jd([[0, 1], [0, 1], [2]])), False)
        self.assertIs(keeps(self.TRIANGLE, Jd([[0], [0], [1, 2], [1, 2]])), False)

    def test_every_small_table(self):
        chance = random.Random(4)
        dependencies = join_dependencies(3, 2)
        triples = [jd for jd in join_dependencies(3, 3) if len(jd.parts) == 3]
        for table in all_tables(3):
            for jd in dependencies + chance.sample(triples, 20):
                self.assertIs(keeps(table, jd), keeps_jd_as_told(table, jd))

    def test_more_values_and_up_to_six_parts(self):
        chance = random.Random(5)
        sides = all_sets(whole(4))[1:]
        for table in some_tables(4, 200, chance):
            for many in range(1, 7):
                parts = [chance.choice(sides) for part in range(many)]
                missing = set(whole(4)) - set().union(*parts)
                parts[-1] = tuple(sorted(set(parts[-1]) | missing))
                self.assertIs(keeps(table, Jd(parts)), keeps_jd_as_told(table, Jd(parts)))

    def test_the_join_may_be_far_larger_than_the_table(self):
        parts = [[0], [1], [2, 3], [4, 5], [6, 7], [8, 9]]
        chance = random.Random(10)
        rows = [[chance.randrange(100) for column in range(10)] for row in range(200)]
        self.assertIs(keeps(Table(whole(10), rows), Jd(parts)), False)
        rows = []
        for a, b, c, d, e, f in itertools.product((0, 1), (2, 3), (4, 5), (6, 7), (8, 9), (10, 11)):
            rows.append((a, b, c, -c, d, d * BIG, e, -e, f, f))
        self.assertIs(keeps(Table(whole(10), rows), Jd(parts)), True)
        self.assertIs(keeps(Table(whole(10), rows[1:]), Jd(parts)), False)

    def test_parts_that_cross(self):
        parts = [[0, 1, 2], [3, 4, 5], [6, 7, 8], [0, 3, 6], [1, 4, 7], [2, 5, 8, 9]]
        chance = random.Random(11)
        for top in (2, 6, 14, 60, 10000):
            rows = [tuple(chance.randrange(top) for column in range(10)) for row in range(200)]
            table = Table(whole(10), rows)
            self.assertIs(keeps(table, Jd(parts)), not joins_to_more(table, parts))
        # A value of its own for each row and column: no two rows agree anywhere.
        self.assertIs(keeps(Table(whole(10), [(row,) * 10 for row in range(200)]), Jd(parts)), True)


class AllKinds(unittest.TestCase):
    def test_the_table_without_rows_keeps_every_dependency(self):
        sides = all_sets(whole(3))
        empty = Table([0, 1, 2], [])
        for left, right in itertools.product(sides, repeat=2):
            self.assertIs(keeps(empty, Fd(left, right)), True)
            self.assertIs(keeps(empty, Mvd(left, right)), True)
        for jd in join_dependencies(3, 3):
            self.assertIs(keeps(empty, jd), True)

    def test_one_row_keeps_every_dependency(self):
        sides = all_sets(whole(3))
        one = Table([0, 1, 2], [(BIG, -BIG, 0)])
        for left, right in itertools.product(sides, repeat=2):
            self.assertIs(keeps(one, Fd(left, right)), True)
            self.assertIs(keeps(one, Mvd(left, right)), True)
        for jd in join_dependencies(3, 2):
            self.assertIs(keeps(one, jd), True)

    def test_one_column(self):
        table = Table([0], [(1,), (2,)])
        self.assertIs(keeps(table, Fd([], [0])), False)
        self.assertIs(keeps(table, Fd([0], [0])), True)
        self.assertIs(keeps(table, Mvd([], [0])), True)
        self.assertIs(keeps(table, Jd([[0]])), True)
        self.assertIs(keeps(table, Jd([[0], [], [0]])), True)

    def test_arguments_stay(self):
        table = Table([0, 1], [(1, 2), (1, 3), (4, 2)])
        for dependency in (Fd([0], [1]), Mvd([0], [1]), Jd([[0], [1]])):
            before = dict(vars(dependency))
            first = keeps(table, dependency)
            self.assertIs(keeps(table, dependency), first)
            self.assertEqual(vars(dependency), before)
            self.assertEqual(table.rows, ((1, 2), (1, 3), (4, 2)))


if __name__ == "__main__":
    unittest.main()
