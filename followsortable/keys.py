"""All keys of functional dependencies, and their judge."""
from followsortable.closure import all_closures
from followsortable.sets import set_of


def keys(count, dependencies):
    """The list of all keys, and that of the greatest sets whose closure is not the whole set."""
    return _both_lists(count, dependencies)


def takes_keys(count, dependencies, keys, others):
    """Whether two lists are those that the function keys gives."""
    return (list(keys), list(others)) == _both_lists(count, dependencies)


def _both_lists(count, dependencies):
    everything = (1 << count) - 1
    full = [closure == everything for closure in all_closures(count, dependencies)]
    least = [mask for mask in range(1 << count) if full[mask] and not any(_full_without(full, mask, count))]
    greatest = [mask for mask in range(1 << count) if not full[mask] and all(_full_with(full, mask, count))]
    return (sorted([set_of(mask) for mask in least]), sorted([set_of(mask) for mask in greatest]))


def _full_without(full, mask, count):
    """For each set that has one column less than a set whether it is full."""
    return [full[mask ^ (1 << column)] for column in range(count) if mask >> column & 1]


def _full_with(full, mask, count):
    """For each set that has one column more than a set whether it is full."""
    return [full[mask | (1 << column)] for column in range(count) if not mask >> column & 1]
