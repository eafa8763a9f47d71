"""States, lists of tables for parts of the columns: their whole tables and windows.

Cells are pairs here: (0, x) is the known number x, (1, i) the unknown with
the number i. The greater one of two unlike cells, as Python compares tuples,
is the one that is replaced, and they clash if it is known.
"""
from followsortable.sets import whole
from followsortable.table import Table, cells_at, keeps, project


def whole_table(count, dependencies, tables):
    """Whether there is a whole table for a state, and a paper that shows it."""
    rows, steps = _chased(dependencies, _first_cells(count, tables))
    if rows is None:
        return (False, ("clash", tuple(steps)))
    return (True, ("table", Table(whole(count), _filled(rows)).rows))


def takes_whole(count, dependencies, tables, verdict, paper):
    """Whether a paper shows that a state has a whole table or has none, as the verdict says."""
    word, content = paper
    if verdict:
        return word == "table" and _is_whole(count, dependencies, tables, content)
    return word == "clash" and _clashes(dependencies, _first_cells(count, tables), content)


def window(count, dependencies, tables, columns):
    """The rows that are in the projection of every whole table on a set, or None if there is no whole table."""
    rows, _ = _chased(dependencies, _first_cells(count, tables))
    if rows is None:
        return None
    parts = [cells_at(row, columns) for row in rows]
    known = [part for part in parts if all([kind == 0 for kind, _ in part])]
    return Table(columns, [[number for _, number in part] for part in known])


def _first_cells(count, tables):
    """The rows with which the chase of a state begins."""
    rows = []
    unknowns = 0
    for table in tables:
        for row in table.rows:
            known = dict(zip(table.columns, row))
            cells = []
            for column in range(count):
                if column in known:
                    cells.append((0, known[column]))
                else:
                    cells.append((1, unknowns))
                    unknowns += 1
            rows.append(tuple(cells))
    return rows


def _unlike_cells(dependencies, rows, step):
    """The two cells that a step makes equal, the smaller one first, or None if the step is not right."""
    index, first, second, column = step
    if not 0 <= index < len(dependencies) or not 0 <= first < len(rows) or not 0 <= second < len(rows):
        return None
    fd = dependencies[index]
    one, other = rows[first], rows[second]
    if column not in fd.right or one[column] == other[column] or cells_at(one, fd.left) != cells_at(other, fd.left):
        return None
    return (min(one[column], other[column]), max(one[column], other[column]))


def _is_clash(cells):
    """Whether two unlike cells, the smaller one first, are both known."""
    return cells[1][0] == 0


def _replaced(rows, cells):
    """The rows with the smaller one of two cells in place of the greater one."""
    kept, lost = cells
    return [tuple([kept if cell == lost else cell for cell in row]) for row in rows]


def _chased(dependencies, rows):
    """Take steps until there is none or one is a clash; the rows, or None behind a clash, and the steps."""
    steps = []
    before = -1
    while len(steps) > before:
        before = len(steps)
        for index, fd in enumerate(dependencies):
            step = _next_step(index, fd, rows)
            while step is not None:
                steps.append(step)
                cells = _unlike_cells(dependencies, rows, step)
                if _is_clash(cells):
                    return (None, steps)
                rows = _replaced(rows, cells)
                step = _next_step(index, fd, rows)
    return (rows, steps)


def _next_step(index, fd, rows):
    """A step that a functional dependency with an index asks for, or None."""
    firsts = {}
    for at, row in enumerate(rows):
        first = firsts.setdefault(cells_at(row, fd.left), at)
        for column in fd.right:
            if row[column] != rows[first][column]:
                return (index, first, at, column)
    return None


def _filled(rows):
    """The rows with a number of its own, which no known cell has, for each unknown."""
    known = [number for row in rows for kind, number in row if kind == 0]
    free = max(known, default=0) + 1
    return [[number if kind == 0 else free + number for kind, number in row] for row in rows]


def _is_whole(count, dependencies, tables, rows):
    """Whether rows of any numbers are those of a whole table for a state."""
    if any([len(row) != count for row in rows]):
        return False
    table = Table(whole(count), rows)
    return all([keeps(table, fd) for fd in dependencies]) and all([_has_rows(table, part) for part in tables])


def _has_rows(table, part):
    """Whether the projection of a table on the columns of another one has all of its rows."""
    there = {row: True for row in project(table, part.columns).rows}
    return all([row in there for row in part.rows])


def _clashes(dependencies, rows, steps):
    """Whether steps of any numbers are right ones, of which just the last one is a clash."""
    for at, step in enumerate(steps):
        cells = _unlike_cells(dependencies, rows, step)
        if cells is None:
            return False
        if _is_clash(cells):
            return at == len(steps) - 1
        rows = _replaced(rows, cells)
    return False
