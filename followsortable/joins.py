"""Joins of several tables, and what of the tables is left in them."""
from itertools import combinations

from followsortable.sets import met
from followsortable.table import Table, cells_at, grouped, join, places, project


def half_join(a, b):
    """The table of the rows of a that agree with some row of b on the columns that both have."""
    shared = met(a.columns, b.columns)
    spots = places(a.columns, shared)
    there = grouped(b.rows, places(b.columns, shared))
    return Table(a.columns, [row for row in a.rows if cells_at(row, spots) in there])


def join_all(tables):
    """The join of a list of at least one table."""
    joined = tables[0]
    for table in tables[1:]:
        joined = join(joined, table)
    return joined


def agree(tables):
    """Whether each two of the tables have the same projection on the columns that both have."""
    return all([_agree_two(a, b) for a, b in combinations(tables, 2)])


def full(tables):
    """The tables, each with those rows alone that stand in the join of all."""
    joined = join_all(tables)
    return [project(joined, table.columns) for table in tables]


def _agree_two(a, b):
    """Whether two tables have the same projection on the columns that both have."""
    shared = met(a.columns, b.columns)
    return project(a, shared) == project(b, shared)
