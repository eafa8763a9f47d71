"""The whole design: points 26, 27, 28, 30 and 33 together, for small numbers of columns."""
import random
import unittest

import plainly
from followsortable.closure import closed
from followsortable.dependency import Fd
from followsortable.exact import exact_table, table_fds
from followsortable.joins import agree, full, join_all
from followsortable.splits import boyce_codd, third
from followsortable.states import takes_whole, whole_table, window
from followsortable.table import Table, project


class Design(unittest.TestCase):
    def look_at(self, count, fds):
        table = exact_table(count, fds)
        for parts in (boyce_codd(count, fds), third(count, fds)):
            projections = [project(table, part) for part in parts]
            self.assertEqual(join_all(projections), table)
            self.assertEqual(plainly.join_rows(projections), plainly.table_fields(table))
            self.assertIs(agree(projections), True)
            self.assertEqual(full(projections), projections)
            self.look_at_state(count, fds, table, projections)
            for part, projection in zip(parts, projections):
                self.look_at_part(fds, part, projection)

    def look_at_state(self, count, fds, table, projections):
        verdict, paper = whole_table(count, fds, projections)
        self.assertIs(verdict, True)
        self.assertTrue(plainly.is_whole(count, fds, projections, paper[1]))
        self.assertIs(takes_whole(count, fds, projections, True, ("table", table.rows)), True)
        for projection in projections:
            self.assertEqual(window(count, fds, projections, projection.columns), projection)

    def look_at_part(self, fds, part, projection):
        """The dependencies that the projection keeps are those that follow and lie within the part."""
        for left in plainly.subsets(part):
            told = [column for column in part if self.tells(projection, left, column)]
            self.assertEqual(told, [column for column in plainly.reach(fds, left) if column in part])
        # The same by table_fds, whose columns are numbered from 0 on.
        renamed = [Fd([part[at] for at in fd.left], [part[at] for at in fd.right])
                   for fd in table_fds(Table(range(len(part)), projection.rows))]
        for left in plainly.subsets(part):
            self.assertEqual(closed(renamed, left), tuple(c for c in closed(fds, left) if c in part))

    def tells(self, table, left, column):
        """Whether rows of a table that agree on the left side agree in the column."""
        seen = {}
        for row in table.rows:
            (cell,) = plainly.cells_of(table.columns, row, (column,))
            if seen.setdefault(plainly.cells_of(table.columns, row, left), cell) != cell:
                return False
        return True

    def test_by_hand(self):
        self.look_at(3, [Fd([0, 1], [2]), Fd([2], [1])])
        self.look_at(4, [Fd([0], [1]), Fd([1], [2]), Fd([2], [3])])
        self.look_at(5, [Fd([0, 1], [2]), Fd([2], [3, 4])])

    def test_no_dependencies_and_empty_left_sides(self):
        for count in range(1, 5):
            self.look_at(count, [])
            self.look_at(count, [Fd([], range(count))])
            self.look_at(count, [Fd([], [0])])

    def test_many_lists(self):
        chance = random.Random(141)
        for count in range(1, 6):
            for turn in range(25):
                self.look_at(count, plainly.some_fds(chance, count, turn % 7, chance.choice((0.2, 0.35, 0.5))))


if __name__ == "__main__":
    unittest.main()
