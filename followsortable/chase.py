"""The chase: its rows and steps, and what follows from dependencies of all kinds."""
from followsortable.dependency import Fd, Jd, join_parts
from followsortable.sets import met, united, whole
from followsortable.table import Table, cells_at, places


def follows(count, dependencies, target):
    """Whether a dependency of any kind follows from others, and a paper that shows it."""
    chase = Chase(count, dependencies, target)
    steps = _run(chase)
    if chase.reached():
        return (True, ("chased", tuple(steps)))
    return (False, ("table", Table(chase.columns, chase.rows).rows))


class Chase:
    """The rows of a chase of a target, on which steps are taken."""

    def __init__(self, count, dependencies, target):
        self.columns = whole(count)
        self.dependencies = list(dependencies)
        self.target = target
        self.rows = _first_rows(self.columns, target)

    def take(self, step):
        """Take a step if it is right here, and tell whether it is."""
        if step[0] not in LENGTHS or len(step) != LENGTHS[step[0]]:
            return False
        if not 0 <= step[1] < len(self.dependencies):
            return False
        dependency = self.dependencies[step[1]]
        if isinstance(dependency, Fd):
            return step[0] == "same" and self.make_same(dependency, step[2], step[3], step[4])
        return step[0] == "join" and self.add_row(join_parts(dependency, self.columns), step[2])

    def make_same(self, fd, first, second, column):
        """Make two rows agree in a column if they have to, and tell whether they have to."""
        if not self.has_row(first) or not self.has_row(second) or column not in fd.right:
            return False
        one, other = self.rows[first], self.rows[second]
        if one[column] == other[column] or cells_at(one, fd.left) != cells_at(other, fd.left):
            return False
        kept, lost = min(one[column], other[column]), max(one[column], other[column])
        self.rows = [_changed(row, column, kept) if row[column] == lost else row for row in self.rows]
        return True

    def add_row(self, parts, picked):
        """Add the row that agrees on each part with the row picked for it, and tell whether there is one."""
        if len(picked) != len(parts) or not all([self.has_row(row) for row in picked]):
            return False
        cells = {}
        for part, row in zip(parts, picked):
            for column in part:
                if cells.setdefault(column, self.rows[row][column]) != self.rows[row][column]:
                    return False
        self.rows.append(tuple([cells[column] for column in self.columns]))
        return True

    def has_row(self, row):
        """Whether a number is the index of a row."""
        return 0 <= row < len(self.rows)

    def reached(self):
        """Whether the goal is reached."""
        target = self.target
        if isinstance(target, Jd):
            return (0,) * len(self.columns) in self.rows
        first, second = self.rows[0], self.rows[1]
        if isinstance(target, Fd):
            return cells_at(first, target.right) == cells_at(second, target.right)
        both = united(target.left, target.right)
        return tuple([first[at] if at in both else second[at] for at in self.columns]) in self.rows


# How many parts a step with a word has.
LENGTHS = {"same": 5, "join": 3}


def _first_rows(columns, target):
    """The rows with which the chase of a target begins."""
    if isinstance(target, Jd):
        return [_row_of(columns, part, index + 1) for index, part in enumerate(target.parts)]
    return [_row_of(columns, columns, 0), _row_of(columns, target.left, 1)]


def _row_of(columns, part, cell):
    """A row with 0 in the columns of a part and the cell in all others."""
    return tuple([0 if column in part else cell for column in columns])


def _changed(row, column, cell):
    """A row with another cell in a column."""
    return row[:column] + (cell,) + row[column + 1:]


def _run(chase):
    """Take steps until the goal is reached or no dependency asks for one; the list of the steps."""
    indexes = range(len(chase.dependencies))
    fds = [index for index in indexes if isinstance(chase.dependencies[index], Fd)]
    others = [index for index in indexes if not isinstance(chase.dependencies[index], Fd)]
    steps = []
    before = -1
    while len(steps) > before:
        before = len(steps)
        # Rows that are made alike first leave fewer rows to join.
        for index in fds + others:
            if chase.reached():
                return steps
            if index in fds:
                steps.extend(_same_steps(chase, index))
            else:
                steps.extend(_join_steps(chase, index))
    return steps


def _same_steps(chase, index):
    """Take all steps that a functional dependency asks for; their list."""
    steps = []
    step = _next_same(chase, index)
    while step is not None:
        chase.take(step)
        steps.append(step)
        step = _next_same(chase, index)
    return steps


def _next_same(chase, index):
    """A step that a functional dependency asks for, or None."""
    fd = chase.dependencies[index]
    firsts = {}
    for at, row in enumerate(chase.rows):
        first = firsts.setdefault(cells_at(row, fd.left), at)
        for column in fd.right:
            if row[column] != chase.rows[first][column]:
                return ("same", index, first, at, column)
    return None


def _join_steps(chase, index):
    """Take a step for each row that a join or many-valued dependency asks for; their list."""
    there = {row: True for row in chase.rows}
    picks = _picks(chase, join_parts(chase.dependencies[index], chase.columns))
    steps = [("join", index, picked) for cells, picked in picks.items() if cells not in there]
    for step in steps:
        chase.take(step)
    return steps


def _picks(chase, parts):
    """A dict of the rows of the join of the projections on some parts, whose union is the whole set.

    Each of these rows is given with a row of the chase picked for each part.
    """
    columns = ()
    found = {(): ()}
    for part in parts:
        found = _joined(columns, found, part, _firsts(chase.rows, part))
        columns = united(columns, part)
    return found


def _firsts(rows, part):
    """A dict of the rows of the projection on a part, each with the index of the first row that has it."""
    firsts = {}
    for at, row in enumerate(rows):
        firsts.setdefault(cells_at(row, part), at)
    return firsts


def _joined(columns, found, part, firsts):
    """The picked rows for some columns, joined with the rows of one more part."""
    shared = met(columns, part)
    groups = {}
    spots = places(part, shared)
    for cells, at in firsts.items():
        groups.setdefault(cells_at(cells, spots), []).append((cells, at))
    joined = {}
    spots = places(columns, shared)
    both = places(columns + part, united(columns, part))
    for cells, picked in found.items():
        for more, at in groups.get(cells_at(cells, spots), []):
            joined[cells_at(cells + more, both)] = picked + (at,)
    return joined
