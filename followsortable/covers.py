"""Covers of functional dependencies, and the judge of the papers that they are as short as can be."""
from itertools import combinations

from followsortable.closure import all_closures, grown, masks_of
from followsortable.dependency import Fd
from followsortable.sets import is_set, mask_of, set_of


def reduced(dependencies):
    """A cover with one column on each right side, of which nothing can be left out."""
    sides = masks_of(dependencies)
    singles = {}
    for left, right in sides:
        for column in set_of(right & ~left):
            singles[(_shrunk(sides, left, 1 << column), 1 << column)] = True
    needed = list(singles)
    for side in singles:
        rest = [other for other in needed if other != side]
        if grown(rest, side[0]) & side[1]:
            needed = rest
    return [Fd(set_of(left), set_of(right)) for left, right in needed]


def fewest(count, dependencies):
    """A cover with as few dependencies as possible, and a paper that shows that there is no shorter one."""
    closures = all_closures(count, dependencies)
    lefts = _own_lefts(closures)
    cover = [Fd(set_of(left), set_of(closures[left] & ~left)) for left in lefts]
    # A set comes after those within it, so only the first of two can be within the other one.
    between = [closures[a] if a & b == a else a & b for a, b in combinations(lefts, 2)]
    return (cover, ("spread", _sets_of(lefts), _sets_of(between)))


def takes_fewest(count, dependencies, cover, paper):
    """Whether a cover is one, and a paper shows that there is no shorter one."""
    word, sets, between = paper
    if word != "spread" or len(sets) != len(cover):
        return False
    if not all([is_set(columns, count) for columns in sets + between]) or not _is_cover(count, dependencies, cover):
        return False
    sides = masks_of(dependencies)
    spread = [mask_of(columns) for columns in sets]
    middle = [mask_of(columns) for columns in between]
    if any([grown(sides, mask) == mask for mask in spread]) or any([grown(sides, mask) != mask for mask in middle]):
        return False
    pairs = list(combinations(spread, 2))
    return len(pairs) == len(middle) and all([_parts(a, b, mask) for (a, b), mask in zip(pairs, middle)])


def _shrunk(sides, left, right):
    """A left side within another one from which no column can be left out, to a right side that it tells."""
    for column in set_of(left):
        smaller = left & ~(1 << column)
        if grown(sides, smaller) & right == right:
            left = smaller
    return left


def _own_lefts(closures):
    """The sets that are not closed, and that hold the closure of each such set within them, ascending.

    Each cover needs for each of these sets a dependency of its own, and the
    dependencies of these sets to their closures are a cover.
    """
    found = []
    for mask, closure in enumerate(closures):
        smaller = [other for other in found if other & mask == other]
        if closure != mask and all([closures[other] & mask == closures[other] for other in smaller]):
            found.append(mask)
    return found


def _sets_of(masks):
    """The sets of a list of masks, as a tuple."""
    return tuple([set_of(mask) for mask in masks])


def _is_cover(count, dependencies, cover):
    """Whether a list of functional dependencies says the same as the told ones."""
    if not all([is_set(side, count) for fd in cover for side in (fd.left, fd.right)]):
        return False
    told, found = masks_of(dependencies), masks_of(cover)
    return _follow(told, found) and _follow(found, told)


def _follow(sides, others):
    """Whether all other functional dependencies follow from some, all of them as masks."""
    return all([grown(sides, left) & right == right for left, right in others])


def _parts(a, b, mask):
    """Whether a closed set keeps one dependency from having both of two sets that are not closed as its own."""
    if a & b == a:
        return a & mask == a and mask & b == mask
    if a & b == b:
        return b & mask == b and mask & a == mask
    return mask == a & b
