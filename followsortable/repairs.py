"""Conflicts between the rows of a table, and the tables that are left when they are mended."""
from itertools import combinations

from followsortable.table import Table, cells_at, grouped, project


def conflicts(table, dependencies):
    """The triples (i, j, index) of two rows in conflict and the first dependency that they break, ascending."""
    found = {}
    for index, fd in enumerate(dependencies):
        for pair in _broken_pairs(table.rows, fd):
            found.setdefault(pair, index)
    return [(i, j, found[(i, j)]) for i, j in sorted(found)]


def repairs(table, dependencies):
    """All repairs of a table, ascending by their rows."""
    sets = _fullest_sets(_rivals(table, dependencies))
    return [Table(table.columns, rows) for rows in sorted([_rows_of(table, mask) for mask in sets])]


def sure(table, dependencies, columns):
    """The table of the rows that are in the projection of every repair on a set of columns."""
    mended = repairs(table, dependencies)
    counts = {}
    for repair in mended:
        for row in project(repair, columns).rows:
            counts[row] = counts.get(row, 0) + 1
    return Table(columns, [row for row in counts if counts[row] == len(mended)])


def fewest_out(table, dependency):
    """The least number of rows to leave out for a functional dependency, and a table of those that stay."""
    stay = []
    for rows in grouped(table.rows, dependency.left).values():
        stay.extend(max(list(grouped(rows, dependency.right).values()), key=len))
    return (len(table.rows) - len(stay), Table(table.columns, stay))


def _broken_pairs(rows, fd):
    """The pairs (i, j), i < j, of the indexes of two rows that break a functional dependency."""
    lefts = [cells_at(row, fd.left) for row in rows]
    rights = [cells_at(row, fd.right) for row in rows]
    return [
        (i, j) for i, j in combinations(range(len(rows)), 2)
        if lefts[i] == lefts[j] and rights[i] != rights[j]
    ]


def _rivals(table, dependencies):
    """For each row the mask of the indexes of the rows that are in conflict with it."""
    rivals = [0] * len(table.rows)
    for i, j, _ in conflicts(table, dependencies):
        rivals[i] |= 1 << j
        rivals[j] |= 1 << i
    return rivals


def _fullest_sets(rivals):
    """The masks of the sets of rows without a conflict to which no row can be added.

    Row after row, such a set of the rows so far either stays as it is, since
    the new row is in conflict with it, or gives way to the new row.
    """
    found = [0]
    for new, mask in enumerate(rivals):
        grown = {some: True for some in found if some & mask}
        for some in found:
            changed = (some & ~mask) | (1 << new)
            if _is_fullest(rivals, changed, new):
                grown[changed] = True
        found = list(grown)
    return found


def _is_fullest(rivals, some, many):
    """Whether none of so many first rows can be added to a set of rows without a conflict."""
    return all([some >> row & 1 or some & rivals[row] for row in range(many)])


def _rows_of(table, mask):
    """The rows of a table whose indexes are in a set, told by its mask."""
    return tuple([row for at, row in enumerate(table.rows) if mask >> at & 1])
