"""The functional dependencies that a table keeps, and tables that keep just the told ones."""
from followsortable.closure import all_closures
from followsortable.dependency import Fd
from followsortable.sets import set_of, whole
from followsortable.table import Table, cells_at


def table_fds(table):
    """The smallest functional dependencies to one column that a table keeps, ascending."""
    count = len(table.columns)
    sizes = [_size(table, set_of(mask)) for mask in range(1 << count)]
    found = []
    for mask in range(1 << count):
        for column in range(count):
            if not mask >> column & 1 and _is_smallest(sizes, mask, 1 << column):
                found.append((set_of(mask), column))
    return [Fd(left, [column]) for left, column in sorted(found)]


def exact_table(count, dependencies):
    """A table that keeps those functional dependencies alone that follow."""
    closures = all_closures(count, dependencies)
    agreed = [set_of(mask) for mask in range((1 << count) - 1) if _is_needed(count, closures, mask)]
    rows = [[0 if column in columns else at + 1 for column in range(count)] for at, columns in enumerate(agreed)]
    return Table(whole(count), [[0] * count] + rows)


def _size(table, columns):
    """The number of rows of the projection on a set of columns."""
    return len({cells_at(row, columns) for row in table.rows})


def _is_smallest(sizes, mask, bit):
    """Whether a set tells a column, and no set with one column less does, all of them as masks."""
    smaller = [mask ^ (1 << column) for column in set_of(mask)]
    return _tells(sizes, mask, bit) and not any([_tells(sizes, other, bit) for other in smaller])


def _tells(sizes, mask, bit):
    """Whether a set tells a column: there are no more rows with it than without it."""
    return sizes[mask | bit] == sizes[mask]


def _is_needed(count, closures, mask):
    """Whether a set is closed and not what some greater closed sets have in common.

    Two rows that agree on just this set are needed then: all other closed
    sets but the whole one are what some of these have in common.
    """
    common = (1 << count) - 1
    for column in range(count):
        if not mask >> column & 1:
            common &= closures[mask | (1 << column)]
    return closures[mask] == mask and common != mask
