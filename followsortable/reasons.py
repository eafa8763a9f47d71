"""All reasons for a functional dependency, and their judge."""
from followsortable.closure import grown, masks_of
from followsortable.sets import borders, mask_of


def reasons(dependencies, target):
    """The list of all reasons, and that of the greatest sets from which a target does not follow."""
    return _both_lists(dependencies, target)


def takes_reasons(dependencies, target, reasons, others):
    """Whether two lists are those that the function reasons gives."""
    return (list(reasons), list(others)) == _both_lists(dependencies, target)


def _both_lists(dependencies, target):
    sides = masks_of(dependencies)
    left, right = mask_of(target.left), mask_of(target.right)
    return borders([_follows(_picked(sides, mask), left, right) for mask in range(1 << len(sides))])


def _picked(sides, mask):
    """The sides of the dependencies whose indexes are in a set, told by its mask."""
    return [side for index, side in enumerate(sides) if mask >> index & 1]


def _follows(sides, left, right):
    """Whether a functional dependency follows from others, all of them as masks."""
    return grown(sides, left) & right == right
