"""Tables, their projections and joins, and the dependencies that they keep."""
from followsortable.dependency import Fd, join_parts
from followsortable.errors import InvalidTable
from followsortable.sets import as_set, met, united


class Table:
    """A set of columns, and rows that stand there once each, ascending."""

    def __init__(self, columns, rows):
        if as_set(columns) != tuple(columns) or any([column < 0 for column in columns]):
            raise InvalidTable("the columns are not in strictly ascending order from 0 on")
        if any([len(row) != len(columns) for row in rows]):
            raise InvalidTable("a row has not as many cells as there are columns")
        self.columns = tuple(columns)
        self.rows = tuple(sorted({tuple(row) for row in rows}))

    def __eq__(self, other):
        return isinstance(other, Table) and self.columns == other.columns and self.rows == other.rows


def places(columns, wanted):
    """The indexes at which the wanted columns stand in a tuple of columns."""
    return [columns.index(column) for column in wanted]


def cells_at(row, spots):
    """The cells of a row at a list of indexes."""
    return tuple([row[spot] for spot in spots])


def grouped(rows, spots):
    """A dict of lists of rows, by their cells at a list of indexes."""
    groups = {}
    for row in rows:
        groups.setdefault(cells_at(row, spots), []).append(row)
    return groups


def project(table, columns):
    """The projection of a table on a set of its columns."""
    spots = places(table.columns, columns)
    return Table(columns, [cells_at(row, spots) for row in table.rows])


def join(a, b):
    """The join of two tables."""
    columns = united(a.columns, b.columns)
    spots = places(a.columns + b.columns, columns)
    matches = _matches(a.columns, a.rows, b)
    rows = [cells_at(row + partner, spots) for row, partners in matches for partner in partners]
    return Table(columns, rows)


def keeps(table, dependency):
    """Whether a table with all columns keeps a dependency."""
    if isinstance(dependency, Fd):
        both = united(dependency.left, dependency.right)
        return len(project(table, dependency.left).rows) == len(project(table, both).rows)
    parts = join_parts(dependency, table.columns)
    # Each row of a table is in the join of its projections, so they are the
    # same if there are as many rows in the one as in the other.
    return _join_size([project(table, part) for part in parts]) == len(table.rows)


def _matches(columns, rows, table):
    """Each of the rows, with these columns, and the list of the table's rows that agree with it."""
    shared = met(columns, table.columns)
    spots = places(columns, shared)
    groups = grouped(table.rows, places(table.columns, shared))
    return [(row, groups.get(cells_at(row, spots), [])) for row in rows]


def _join_size(tables):
    """The number of rows of the join of a list of tables.

    The join itself may have far too many rows to be built. So rows of the
    join of some tables count together when they agree on all columns that
    the other tables still ask for.
    """
    columns = ()
    counts = {(): 1}
    waiting = list(tables)
    while waiting:
        # The order does not change the number, but it changes the work.
        work = [_pair_count(columns, counts, table) for table in waiting]
        table = waiting.pop(work.index(min(work)))
        asked = as_set([column for other in waiting for column in other.columns])
        kept = met(united(columns, table.columns), asked)
        counts = _counts_with(columns, counts, table, kept)
        columns = kept
    return counts.get((), 0)


def _pair_count(columns, counts, table):
    """The number of pairs of a counted row and a row of the table that agree."""
    matches = _matches(columns, list(counts), table)
    return sum([len(partners) for _, partners in matches])


def _counts_with(columns, counts, table, kept):
    """The counts with one more table joined, by the cells in the kept columns."""
    spots = places(columns + table.columns, kept)
    found = {}
    for row, partners in _matches(columns, list(counts), table):
        for partner in partners:
            cells = cells_at(row + partner, spots)
            found[cells] = found.get(cells, 0) + counts[row]
    return found
