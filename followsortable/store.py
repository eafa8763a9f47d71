"""A store of rows that keeps functional dependencies and takes changes back."""
from followsortable.errors import Broken, NoMark
from followsortable.table import cells_at


class Store:
    """Rows for all columns that keep functional dependencies."""

    def __init__(self, count, dependencies):
        # Each row tells itself how many columns there are: count is asked for
        # by the interface alone.
        self._dependencies = list(dependencies)
        self._held = {}
        # For each dependency a dict from the cells on its left side to those
        # on its right side and the number of rows that have them.
        self._sides = [{} for _ in dependencies]
        self._changes = []

    def insert(self, row):
        """Add a row, and tell whether it was not there yet."""
        cells = tuple(row)
        if cells in self._held:
            return False
        for index, fd in enumerate(self._dependencies):
            right = cells_at(cells, fd.right)
            found, _ = self._sides[index].get(cells_at(cells, fd.left), (right, 0))
            if found != right:
                raise Broken(index)
        self._make(cells, True)
        self._changes.append((cells, True))
        return True

    def remove(self, row):
        """Take a row out, and tell whether it was there."""
        cells = tuple(row)
        if cells not in self._held:
            return False
        self._make(cells, False)
        self._changes.append((cells, False))
        return True

    def rows(self):
        """The rows, ascending."""
        return sorted(self._held)

    def find(self, columns, cells):
        """The rows, ascending, that have these cells in the columns of a set."""
        return [row for row in self.rows() if cells_at(row, columns) == tuple(cells)]

    def mark(self):
        """The number of changes that were made and not taken back."""
        return len(self._changes)

    def back(self, mark):
        """Take back all changes but so many first ones."""
        if not 0 <= mark <= len(self._changes):
            raise NoMark(mark)
        while len(self._changes) > mark:
            cells, added = self._changes.pop()
            self._make(cells, not added)

    def _make(self, cells, there):
        """Make a change that is known to be right: put a row there, or take it away."""
        if there:
            self._held[cells] = True
        else:
            del self._held[cells]
        for index, fd in enumerate(self._dependencies):
            sides = self._sides[index]
            left = cells_at(cells, fd.left)
            right, many = sides.get(left, (cells_at(cells, fd.right), 0))
            many += 1 if there else -1
            if many > 0:
                sides[left] = (right, many)
            else:
                del sides[left]
