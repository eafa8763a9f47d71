"""Closures for functional dependencies, and what follows from these."""
from followsortable.derivations import Derivation, put_chain
from followsortable.sets import is_within, less, mask_of, set_of, united, whole


def closed(dependencies, columns):
    """The closure of a set for a list of functional dependencies."""
    return set_of(grown(masks_of(dependencies), mask_of(columns)))


def follows_fd(count, dependencies, target):
    """Whether a functional dependency follows from others, and a paper that shows it."""
    reached = closed(dependencies, target.left)
    if not is_within(target.right, reached):
        return (False, ("table", two_rows(count, less(whole(count), reached))))
    proof = Derivation(count, dependencies)
    rows = [proof.put(("told", index)) for index in _path(dependencies, target.left, target.right)]
    put_chain(proof, target.left, rows, target.right)
    return (True, ("derived", tuple(proof.rows)))


def masks_of(dependencies):
    """The sides of functional dependencies, as pairs of masks."""
    return [(mask_of(fd.left), mask_of(fd.right)) for fd in dependencies]


def grown(sides, mask):
    """The closure of a set for functional dependencies, all of them as masks."""
    before = -1
    while mask != before:
        before = mask
        for left, right in sides:
            if left & mask == left:
                mask |= right
    return mask


def all_closures(count, dependencies):
    """The closures of all sets, as masks: that of a mask stands at its index."""
    sides = masks_of(dependencies)
    return [grown(sides, mask) for mask in range(1 << count)]


def two_rows(count, unlike):
    """Two rows for all columns that agree in those outside of a set, and nowhere else."""
    return ((0,) * count, tuple([1 if column in unlike else 0 for column in range(count)]))


def _path(dependencies, left, right):
    """The indexes of dependencies that lead from left, one after the other, to all of right."""
    path = []
    reached = left
    while not is_within(right, reached):
        for index, fd in enumerate(dependencies):
            if is_within(fd.left, reached) and not is_within(fd.right, reached):
                path.append(index)
                reached = united(reached, fd.right)
    return path
