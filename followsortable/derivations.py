"""Derivations: what their rows tell, and how one is put together."""
from followsortable.dependency import Fd, Jd, Mvd
from followsortable.sets import is_set, is_within, less, met, united, whole


class Derivation:
    """Rows that are right for told dependencies, and the dependency that each of them tells."""

    def __init__(self, count, dependencies):
        self.count = count
        self.dependencies = list(dependencies)
        self.rows = []
        self.told = []

    def accept(self, row):
        """Add a row if it is right here, and tell whether it is."""
        word, *parts = row
        if word not in RULES or len(parts) != LENGTHS[word]:
            return False
        rule = RULES[word]
        dependency = rule(self, *parts)
        if dependency is None:
            return False
        self.rows.append(row)
        self.told.append(dependency)
        return True

    def put(self, row):
        """Add a row that is known to be right; its index."""
        right = self.accept(row)
        assert right
        return len(self.rows) - 1

    def fd_at(self, row):
        """The functional dependency that the row with this index tells, or None."""
        if 0 <= row < len(self.told) and isinstance(self.told[row], Fd):
            return self.told[row]
        return None

    def mvd_at(self, row):
        """The many-valued dependency that the row with this index tells, or None."""
        if 0 <= row < len(self.told) and isinstance(self.told[row], Mvd):
            return self.told[row]
        return None

    def has(self, columns):
        """Whether a tuple of numbers is a set of the columns that there are."""
        return is_set(columns, self.count)


# Each rule gives the dependency that a row with its word tells behind the
# rows of a derivation, or None if the row is not right there.


def _by_told(proof, index):
    if 0 <= index < len(proof.dependencies) and not isinstance(proof.dependencies[index], Jd):
        return proof.dependencies[index]
    return None


def _by_within(proof, left, right):
    if proof.has(left) and proof.has(right) and is_within(right, left):
        return Fd(left, right)
    return None


def _by_with(proof, row, columns):
    fd = proof.fd_at(row)
    if fd is None or not proof.has(columns):
        return None
    return Fd(united(fd.left, columns), united(fd.right, columns))


def _by_through(proof, first, second):
    one, other = proof.fd_at(first), proof.fd_at(second)
    if one is None or other is None or one.right != other.left:
        return None
    return Fd(one.left, other.right)


def _by_also(proof, row):
    fd = proof.fd_at(row)
    if fd is None:
        return None
    return Mvd(fd.left, fd.right)


def _by_other(proof, row):
    mvd = proof.mvd_at(row)
    if mvd is None:
        return None
    return Mvd(mvd.left, less(whole(proof.count), united(mvd.left, mvd.right)))


def _by_wide(proof, row, columns, some):
    mvd = proof.mvd_at(row)
    if mvd is None or not proof.has(columns) or not proof.has(some) or not is_within(some, columns):
        return None
    return Mvd(united(mvd.left, columns), united(mvd.right, some))


def _by_beyond(proof, first, second):
    one, other = proof.mvd_at(first), proof.mvd_at(second)
    if one is None or other is None or one.right != other.left:
        return None
    return Mvd(one.left, less(other.right, one.right))


def _by_meets(proof, first, second):
    mvd, fd = proof.mvd_at(first), proof.fd_at(second)
    if mvd is None or fd is None or not is_within(fd.right, mvd.right) or met(fd.left, mvd.right) != ():
        return None
    return Fd(mvd.left, fd.right)


RULES = {
    "told": _by_told,
    "within": _by_within,
    "with": _by_with,
    "through": _by_through,
    "also": _by_also,
    "other": _by_other,
    "wide": _by_wide,
    "beyond": _by_beyond,
    "meets": _by_meets,
}

# How many parts stand behind the word of a row.
LENGTHS = {
    "told": 1, "within": 2, "with": 2, "through": 2, "also": 1, "other": 1, "wide": 3, "beyond": 2, "meets": 2,
}


def put_chain(proof, left, rows, right):
    """Put rows of which the last one tells the functional dependency of left to right.

    rows are indexes of rows that tell functional dependencies; the left side
    of each is within the set that is reached from left by those before it.
    """
    last = proof.put(("within", left, left))
    for row in rows:
        wider = proof.put(("with", row, proof.told[last].right))
        last = proof.put(("through", last, wider))
    narrower = proof.put(("within", proof.told[last].right, right))
    return proof.put(("through", last, narrower))
