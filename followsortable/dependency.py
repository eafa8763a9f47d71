"""The dependencies: functional, many-valued and join dependencies."""
from followsortable.sets import as_set, less, united


class Fd:
    """A functional dependency."""

    def __init__(self, left, right):
        self.left = as_set(left)
        self.right = as_set(right)

    def __eq__(self, other):
        return isinstance(other, Fd) and self.left == other.left and self.right == other.right


class Mvd:
    """A many-valued dependency."""

    def __init__(self, left, right):
        self.left = as_set(left)
        self.right = as_set(right)

    def __eq__(self, other):
        return isinstance(other, Mvd) and self.left == other.left and self.right == other.right


class Jd:
    """A join dependency."""

    def __init__(self, parts):
        self.parts = tuple([as_set(part) for part in parts])

    def __eq__(self, other):
        return isinstance(other, Jd) and self.parts == other.parts


def join_parts(dependency, columns):
    """The parts of a join dependency, or of the one that a many-valued one is.

    columns is the whole set.
    """
    if isinstance(dependency, Jd):
        return dependency.parts
    left, right = dependency.left, dependency.right
    return (united(left, right), united(left, less(columns, right)))
