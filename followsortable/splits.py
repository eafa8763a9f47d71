"""Splits of the whole set: what they lose, and those with parts in a normal form."""
from followsortable.basis import basis, settled
from followsortable.chase import follows
from followsortable.closure import closed, grown, masks_of
from followsortable.covers import reduced
from followsortable.dependency import Fd, Jd
from followsortable.keys import keys
from followsortable.sets import all_sets, is_within, less, mask_of, met, outermost, set_of, united, whole


def lossless(count, dependencies, parts):
    """Whether a split loses nothing, and a paper that shows it."""
    return follows(count, dependencies, Jd(parts))


def kept(count, dependencies, parts):
    """Whether a split keeps functional dependencies, and the list of those that it loses."""
    sides = masks_of(dependencies)
    masks = [mask_of(part) for part in parts]
    lost = [fd for fd in dependencies if not is_within(fd.right, set_of(_reached(sides, masks, mask_of(fd.left))))]
    return (len(lost) == 0, lost)


def broken(count, dependencies, columns):
    """A functional dependency that shows that a set is not in Boyce-Codd form, or None if it is."""
    sides = masks_of(dependencies)
    everything = mask_of(columns)
    for left in all_sets(columns):
        mask = mask_of(left)
        reached = grown(sides, mask) & everything
        if reached not in (mask, everything):
            return Fd(left, set_of(reached & ~mask))
    return None


def boyce_codd(count, dependencies):
    """A split that loses nothing, with parts in Boyce-Codd form."""
    return _split_up(count, lambda part: _broken_halves(count, dependencies, part))


def third(count, dependencies):
    """A split that loses nothing and keeps the dependencies, with parts in third form."""
    parts = {}
    for fd in reduced(dependencies):
        parts[fd.left] = united(parts.get(fd.left, fd.left), fd.right)
    split = list(parts.values())
    if whole(count) not in [closed(dependencies, part) for part in split]:
        found, _ = keys(count, dependencies)
        split.append(found[0])
    return outermost(split)


def fourth(count, dependencies):
    """A split that loses nothing, with parts in fourth form."""
    return _split_up(count, lambda part: _divided_halves(count, dependencies, part))


def _reached(sides, parts, mask):
    """The closure of a set for the functional dependencies of all parts, all of them as masks."""
    before = -1
    while mask != before:
        before = mask
        for part in parts:
            mask |= grown(sides, mask & part) & part
    return mask


def _split_up(count, halves_of):
    """Divide the whole set, and what comes of it, as long as halves_of gives two smaller sets."""
    waiting = [whole(count)]
    done = []
    while waiting:
        part = waiting.pop()
        halves = halves_of(part)
        waiting.extend(halves)
        if not halves:
            done.append(part)
    return outermost(done)


def _broken_halves(count, dependencies, part):
    """The two parts into which a part falls that is not in Boyce-Codd form; none if it is."""
    fd = broken(count, dependencies, part)
    if fd is None:
        return []
    return [united(fd.left, fd.right), less(part, fd.right)]


def _divided_halves(count, dependencies, part):
    """The two parts into which a part falls that is not in fourth form; none if it is."""
    for left in all_sets(part):
        blocks = basis(count, dependencies, left)
        inside = [block for block in blocks if met(block, part) != ()]
        if len(inside) > 1 and not is_within(part, settled(dependencies, left, blocks)):
            return [united(left, met(inside[0], part)), less(part, inside[0])]
    return []
