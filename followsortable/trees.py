"""Join trees of lists of sets, and the papers that there is one or none."""
from itertools import combinations

from followsortable.dependency import Mvd
from followsortable.sets import as_set, met, outermost


def join_tree(parts):
    """A paper with a join tree of a list of sets, or with a core if there is none."""
    edges = _widest_tree(parts)
    if _joins_all_columns(parts, edges):
        return ("tree", tuple(edges))
    return ("core", _core(parts))


def takes_tree(parts, paper):
    """Whether a paper shows that a list of sets has a join tree or has none."""
    word, content = paper
    if word == "tree":
        return _is_tree(len(parts), content) and _joins_all_columns(parts, content)
    return word == "core" and _is_core(parts, content)


def tree_mvds(parts, edges):
    """The many-valued dependencies, one for each edge of a join tree, that say what the tree says."""
    found = []
    for edge in edges:
        rest = [other for other in edges if other != edge]
        near = _union_at(parts, _reached(edge[0], rest))
        far = _union_at(parts, _reached(edge[1], rest))
        found.append(Mvd(met(near, far), near))
    return found


def _widest_tree(parts):
    """The edges of a tree whose sets share as many columns along the edges as can be, ascending.

    A column that is in n sets counts at most n - 1 times along the edges of a
    tree, and so many times just if its sets are connected. So this is a join
    tree if there is one.
    """
    pairs = [(-len(met(parts[i], parts[j])), i, j) for i, j in combinations(range(len(parts)), 2)]
    edges = []
    for _, i, j in sorted(pairs):
        if j not in _reached(i, edges):
            edges.append((i, j))
    return sorted(edges)


def _reached(start, edges):
    """The nodes to which edges lead from a node, itself included, ascending."""
    reached = {start: True}
    before = 0
    while len(reached) > before:
        before = len(reached)
        for i, j in edges:
            if i in reached or j in reached:
                reached[i] = True
                reached[j] = True
    return sorted(reached)


def _are_connected(nodes, edges):
    """Whether the edges between some nodes, ascending, connect them."""
    inner = [(i, j) for i, j in edges if i in nodes and j in nodes]
    return _reached(nodes[0], inner) == nodes


def _joins_all_columns(parts, edges):
    """Whether for each column the edges connect the sets that contain it."""
    holders = [[node for node, part in enumerate(parts) if column in part] for column in _union(parts)]
    return all([_are_connected(nodes, edges) for nodes in holders])


def _is_tree(many, edges):
    """Whether pairs of any numbers are the edges of a tree of so many nodes, in their order."""
    if len(edges) != many - 1 or list(edges) != sorted(set(edges)):
        return False
    return all([0 <= i < j < many for i, j in edges]) and _are_connected(list(range(many)), edges)


def _core(parts):
    """The columns that are left when what is no hindrance to a join tree is taken away.

    That is a column that is in one set alone, and a set that is within
    another one.
    """
    sets = outermost(parts)
    before = []
    while sets != before:
        before = sets
        shared = [column for column in _union(sets) if _many_with(sets, column) > 1]
        sets = outermost([met(one, shared) for one in sets])
    return _union(sets)


def _is_core(parts, columns):
    """Whether a tuple of any numbers is a core of a list of sets."""
    if as_set(columns) != columns:
        return False
    sets = outermost([met(part, columns) for part in parts])
    return len(sets) > 1 and all([_many_with(sets, column) > 1 for column in columns])


def _many_with(sets, column):
    """The number of the sets that contain a column."""
    return len([one for one in sets if column in one])


def _union(sets):
    """The set of the columns that are in some of the sets."""
    return as_set([column for one in sets for column in one])


def _union_at(parts, nodes):
    """The set of the columns that are in the sets at some indexes."""
    return _union([parts[node] for node in nodes])
