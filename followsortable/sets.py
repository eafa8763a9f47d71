"""Sets of columns: tuples of columns in ascending order, without repeats."""
from itertools import combinations


def as_set(columns):
    """The set of the columns in a list, in any order and with repeats."""
    return tuple(sorted(set(columns)))


def united(a, b):
    """The set of the columns that are in a or b."""
    return tuple(sorted(set(a) | set(b)))


def met(a, b):
    """The set of the columns that are in both a and b."""
    return tuple(sorted(set(a) & set(b)))


def less(a, b):
    """The set of the columns that are in a and not in b."""
    return tuple(sorted(set(a) - set(b)))


def is_within(a, b):
    """Whether all columns of a are columns of b."""
    return len(set(a) - set(b)) == 0


def whole(count):
    """The set of all columns, for a number of columns."""
    return tuple(range(count))


def all_sets(columns):
    """The sets within a set, by the number of columns, then as tuples."""
    members = sorted(set(columns))
    return [chosen for size in range(len(members) + 1) for chosen in combinations(members, size)]


def is_set(columns, count):
    """Whether a tuple of any numbers is a set of the columns that there are."""
    return met(columns, whole(count)) == columns


def outermost(sets):
    """The sets that are within no other one of some sets, once each, ascending."""
    different = sorted(set(sets))
    return [
        one for one in different
        if not any([one != other and is_within(one, other) for other in different])
    ]


def mask_of(columns):
    """A set as one number: the bits with the numbers of its columns are 1."""
    mask = 0
    for column in columns:
        mask |= 1 << column
    return mask


def set_of(mask):
    """The set of which mask_of makes this number."""
    return tuple([column for column in range(mask.bit_length()) if mask >> column & 1])


def borders(holds):
    """The list of the least sets with a property, and that of the greatest sets without it, both ascending.

    holds says for each mask whether its set has the property. Each set has it
    that one with it is within, so sets with one column more or less tell
    enough.
    """
    bits = set_of(len(holds) - 1)
    least, greatest = [], []
    for mask, held in enumerate(holds):
        smaller = [mask ^ (1 << bit) for bit in bits if mask >> bit & 1]
        greater = [mask | (1 << bit) for bit in bits if not mask >> bit & 1]
        if held and not any([holds[other] for other in smaller]):
            least.append(set_of(mask))
        if not held and all([holds[other] for other in greater]):
            greatest.append(set_of(mask))
    return (sorted(least), sorted(greatest))
