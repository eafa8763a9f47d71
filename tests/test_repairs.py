"""Conflicts and repairs: points 1 to 5, 37 and 38, and the heading repairs.py."""
import itertools
import random
import time
import unittest

import plainly
from followsortable import repairs as module
from followsortable.dependency import Fd
from followsortable.repairs import conflicts, fewest_out, repairs, sure
from followsortable.table import Table, keeps

BIG = 10 ** 40
FDS = [Fd([0], [1]), Fd([1], [2])]
# 0 and 1 break 0 > 1, 0 and 2 break 1 > 2; the row 3 is in no conflict.
MIXED = Table([0, 1, 2], [(1, 2, 3), (1, 4, 3), (5, 2, 6), (7, 7, 7)])


def some_tables(seed, turns, most=7):
    """Triples of a number of columns, dependencies and a table."""
    chance = random.Random(seed)
    for turn in range(turns):
        count = chance.randrange(1, 5)
        fds = plainly.some_fds(chance, count, chance.randrange(5), chance.choice((0.2, 0.4, 0.6)))
        cells = chance.choice(((0, 1), (-1, 0, BIG), range(4)))
        rows = [[chance.choice(cells) for _ in range(count)] for _ in range(chance.randrange(most + 1))]
        yield count, fds, Table(range(count), rows)


class Looking(unittest.TestCase):
    def unchanged(self, function, table, fds, *more):
        """What a function gives, again for equal arguments; the arguments stay as they were."""
        before = (plainly.table_fields(table), plainly.all_fields(fds))
        found = function(table, fds, *more)
        self.assertEqual((plainly.table_fields(table), plainly.all_fields(fds)), before)
        self.assertEqual(function(Table(table.columns, table.rows), tuple(fds), *more), found)
        return found


class Conflicts(Looking):
    def look_at(self, table, fds):
        found = self.unchanged(conflicts, table, fds)
        self.assertIs(type(found), list)
        self.assertTrue(plainly.is_tuples(tuple(found)))
        self.assertEqual(found, plainly.all_conflicts(table.rows, fds))
        self.assertIs(found == [], all(keeps(table, fd) for fd in fds))
        return found

    def test_by_hand(self):
        self.assertEqual(self.look_at(MIXED, FDS), [(0, 1, 0), (0, 2, 1)])
        self.assertEqual(self.look_at(MIXED, FDS[::-1]), [(0, 1, 1), (0, 2, 0)])
        self.assertEqual(self.look_at(MIXED, FDS[:1]), [(0, 1, 0)])
        self.assertEqual(self.look_at(MIXED, []), [])

    def test_the_first_dependency_of_several(self):
        table = Table([0, 1, 2], [(1, 2, 3), (1, 4, 6), (1, 2, 6)])
        self.assertEqual(table.rows, ((1, 2, 3), (1, 2, 6), (1, 4, 6)))
        fds = [Fd([1], [2]), Fd([0], [2]), Fd([0], [1]), Fd([0], [1])]
        self.assertEqual(self.look_at(table, fds), [(0, 1, 0), (0, 2, 1), (1, 2, 2)])

    def test_empty_left_sides_and_right_sides_within_the_left_ones(self):
        table = Table([0, 1], [(1, 2), (3, 2), (5, 6)])
        self.assertEqual(self.look_at(table, [Fd([], [1])]), [(0, 2, 0), (1, 2, 0)])
        self.assertEqual(self.look_at(table, [Fd([], [0, 1])]), [(0, 1, 0), (0, 2, 0), (1, 2, 0)])
        self.assertEqual(self.look_at(table, [Fd([0, 1], [1]), Fd([], []), Fd([0], [])]), [])
        self.assertEqual(self.look_at(table, [Fd([0], [0]), Fd([1], [0, 1])]), [(0, 1, 1)])

    def test_no_rows_and_one_row(self):
        for rows in ([], [(1, 2)]):
            self.assertEqual(self.look_at(Table([0, 1], rows), [Fd([], [0, 1])]), [])

    def test_many_tables(self):
        seen = {True: 0, False: 0}
        for count, fds, table in some_tables(161, 300, 12):
            seen[self.look_at(table, fds) == []] += 1
        self.assertGreater(min(seen.values()), 50)

    def test_200_rows_and_40_dependencies(self):
        chance = random.Random(162)
        start = time.process_time()
        rows = [[at] + [chance.randrange(9) for _ in range(9)] for at in range(200)]
        fds = [Fd(chance.sample(range(1, 10), 2), [chance.randrange(10)]) for _ in range(39)]
        self.assertEqual(self.look_at(Table(range(10), rows), [])[:1], [])
        self.assertGreater(len(self.look_at(Table(range(10), rows), fds)), 100)
        self.assertEqual(len(self.look_at(Table(range(10), rows), fds + [Fd([], [0])])), 19900)
        self.assertLess(time.process_time() - start, 60)


class Repairs(Looking):
    def look_at(self, table, fds):
        found = self.unchanged(repairs, table, fds)
        self.assertIs(type(found), list)
        self.assertEqual([type(one) for one in found], [Table] * len(found))
        self.assertEqual([one.columns for one in found], [table.columns] * len(found))
        self.assertEqual([one.rows for one in found], plainly.all_repairs(table.rows, fds))
        return [one.rows for one in found]

    def test_by_hand(self):
        self.assertEqual(self.look_at(MIXED, FDS), [((1, 2, 3), (7, 7, 7)), ((1, 4, 3), (5, 2, 6), (7, 7, 7))])
        self.assertEqual(self.look_at(MIXED, []), [MIXED.rows])
        self.assertEqual(self.look_at(MIXED, [Fd([], [2])]), [
            ((1, 2, 3), (1, 4, 3)), ((5, 2, 6),), ((7, 7, 7),),
        ])

    def test_no_rows_one_row_and_no_conflicts(self):
        self.assertEqual(self.look_at(Table([0], []), [Fd([], [0])]), [()])
        self.assertEqual(self.look_at(Table([0], [(5,)]), [Fd([], [0])]), [((5,),)])
        self.assertEqual(self.look_at(Table([0], [(5,), (BIG,)]), [Fd([0], [0])]), [((5,), (BIG,))])

    def test_ascending_by_their_rows(self):
        # The repair with more rows stands first here, and last there.
        table = Table([0, 1], [(0, 0), (1, 1), (2, 1)])
        self.assertEqual(self.look_at(table, [Fd([], [1])]), [((0, 0),), ((1, 1), (2, 1))])
        table = Table([0, 1], [(0, 1), (1, 0), (2, 1)])
        self.assertEqual(self.look_at(table, [Fd([], [1])]), [((0, 1), (2, 1)), ((1, 0),)])

    def test_many_tables(self):
        many = 0
        for count, fds, table in some_tables(163, 300):
            many += len(self.look_at(table, fds)) > 2
        self.assertGreater(many, 50)

    def test_ten_rows(self):
        start = time.process_time()
        single = Table([0, 1], [(at, at) for at in range(10)])
        self.assertEqual(self.look_at(single, [Fd([], [0])]), [((at, at),) for at in range(10)])
        paired = Table([0, 1], [(at // 2, at) for at in range(10)])
        found = self.look_at(paired, [Fd([0], [1])])
        self.assertEqual(len(found), 32)
        three = Table([0, 1], [(at // 3, at) for at in range(10)])
        self.assertEqual(len(self.look_at(three, [Fd([0], [1])])), 27)
        chance = random.Random(164)
        for turn in range(15):
            rows = [(chance.randrange(5), chance.randrange(3), at) for at in range(10)]
            self.look_at(Table([0, 1, 2], rows), [Fd([0], [1]), Fd([1], [0])])
        self.assertLess(time.process_time() - start, 60)

    def test_a_chain_of_conflicts(self):
        # Each row is in conflict with the ones before and behind it.
        rows = [((at + 1) // 2, 10 + at // 2, at) for at in range(8)]
        fds = [Fd([0], [2]), Fd([1], [2])]
        self.assertEqual([(i, j) for i, j, _ in conflicts(Table([0, 1, 2], rows), fds)], [(at, at + 1) for at in range(7)])
        self.assertGreater(len(self.look_at(Table([0, 1, 2], rows), fds)), 5)

    def test_a_new_list_each_time(self):
        repairs(MIXED, FDS).clear()
        conflicts(MIXED, FDS).clear()
        self.assertEqual((len(repairs(MIXED, FDS)), len(conflicts(MIXED, FDS))), (2, 2))


class Sure(Looking):
    def look_at(self, table, fds, columns):
        found = self.unchanged(sure, table, fds, columns)
        self.assertIs(type(found), Table)
        there = [{tuple(row[at] for at in columns) for row in rows} for rows in plainly.all_repairs(table.rows, fds)]
        self.assertEqual(plainly.table_fields(found), (columns, tuple(sorted(set.intersection(*there)))))
        return found.rows

    def test_by_hand(self):
        self.assertEqual(self.look_at(MIXED, FDS, (0, 1, 2)), ((7, 7, 7),))
        self.assertEqual(self.look_at(MIXED, FDS, (0,)), ((1,), (7,)))
        self.assertEqual(self.look_at(MIXED, FDS, (0, 2)), ((1, 3), (7, 7)))
        self.assertEqual(self.look_at(MIXED, FDS, (1,)), ((2,), (7,)))
        self.assertEqual(self.look_at(MIXED, FDS, ()), ((),))
        self.assertEqual(self.look_at(MIXED, [], (0, 1, 2)), MIXED.rows)

    def test_no_rows(self):
        for columns in plainly.subsets(range(2)):
            self.assertEqual(self.look_at(Table([0, 1], []), [Fd([], [0])], columns), ())

    def test_many_tables(self):
        for count, fds, table in some_tables(165, 100):
            free = set(range(len(table.rows))) - {at for i, j, _ in conflicts(table, fds) for at in (i, j)}
            for columns in plainly.subsets(range(count)):
                found = self.look_at(table, fds, columns)
                for at in free:
                    self.assertIn(tuple(table.rows[at][column] for column in columns), found)

    def test_ten_rows(self):
        table = Table([0, 1, 2], [(at // 2, at, 7) for at in range(10)])
        self.assertEqual(self.look_at(table, [Fd([0], [1])], (0, 2)), tuple((at, 7) for at in range(5)))
        self.assertEqual(self.look_at(table, [Fd([0], [1])], (0, 1)), ())


class FewestOut(unittest.TestCase):
    def look_at(self, table, fd):
        before = (plainly.table_fields(table), plainly.fields(fd))
        answer = fewest_out(table, fd)
        self.assertEqual((plainly.table_fields(table), plainly.fields(fd)), before)
        self.assertEqual(fewest_out(Table(table.columns, table.rows), Fd(fd.left, fd.right)), answer)
        self.assertIs(type(answer), tuple)
        number, rest = answer
        self.assertEqual((type(number), type(rest)), (int, Table))
        self.assertEqual(rest.columns, table.columns)
        self.assertLessEqual(set(rest.rows), set(table.rows))
        self.assertEqual(len(rest.rows), len(table.rows) - number)
        self.assertTrue(plainly.keeps(len(table.columns), rest.rows, fd))
        return number

    def least(self, table, fd):
        """The least number of rows to leave out, by going through all sets of rows."""
        for many in range(len(table.rows) + 1):
            for out in itertools.combinations(table.rows, many):
                if plainly.keeps(len(table.columns), [row for row in table.rows if row not in out], fd):
                    return many

    def test_by_hand(self):
        table = Table([0, 1], [(0, 1), (0, 2), (1, 1), (2, 5)])
        self.assertEqual(self.look_at(table, Fd([0], [1])), 1)
        self.assertEqual(self.look_at(table, Fd([1], [0])), 1)
        self.assertEqual(self.look_at(table, Fd([], [1])), 2)
        self.assertEqual(self.look_at(table, Fd([], [0, 1])), 3)
        self.assertEqual(self.look_at(table, Fd([0], [0])), 0)
        self.assertEqual(self.look_at(table, Fd([], [])), 0)
        self.assertEqual(fewest_out(Table([0, 1], [(1, 1), (2, 1), (3, 0)]), Fd([], [1])),
                         (1, Table([0, 1], [(1, 1), (2, 1)])))

    def test_no_rows_and_one_row(self):
        for rows in ([], [(1, 2)]):
            self.assertEqual(fewest_out(Table([0, 1], rows), Fd([], [0, 1])), (0, Table([0, 1], rows)))

    def test_many_tables(self):
        numbers = []
        for count, fds, table in some_tables(166, 300):
            for fd in fds[:1]:
                numbers.append(self.look_at(table, fd))
                self.assertEqual(numbers[-1], self.least(table, fd))
        self.assertGreater(len([number for number in numbers if number > 1]), 20)

    def test_200_rows(self):
        chance = random.Random(167)
        start = time.process_time()
        table = Table(range(10), [[at // 10, at] + [chance.randrange(3) for _ in range(8)] for at in range(200)])
        self.assertEqual(self.look_at(table, Fd([0], [1])), 180)
        self.assertEqual(self.look_at(table, Fd([], range(10))), 199)
        self.assertEqual(self.look_at(table, Fd([1], range(10))), 0)
        kept = [max(sum(row[0] == at and row[2] == cell for row in table.rows) for cell in range(3)) for at in range(20)]
        self.assertEqual(self.look_at(table, Fd([0], [2])), 200 - sum(kept))
        self.assertLess(time.process_time() - start, 20)

    def test_defined_here(self):
        for made in (conflicts, repairs, sure, fewest_out):
            self.assertEqual(made.__module__, "followsortable.repairs")
            self.assertIs(getattr(module, made.__name__), made)


if __name__ == "__main__":
    unittest.main()
