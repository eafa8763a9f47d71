"""All keys of functional dependencies, and their judge."""
from followsortable.closure import all_closures
from followsortable.sets import borders


def keys(count, dependencies):
    """The list of all keys, and that of the greatest sets whose closure is not the whole set."""
    return _both_lists(count, dependencies)


def takes_keys(count, dependencies, keys, others):
    """Whether two lists are those that the function keys gives."""
    return (list(keys), list(others)) == _both_lists(count, dependencies)


def _both_lists(count, dependencies):
    everything = (1 << count) - 1
    return borders([closure == everything for closure in all_closures(count, dependencies)])
