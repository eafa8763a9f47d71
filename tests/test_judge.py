"""The judge of papers: points 1 to 5, 12, 16 and 18, and the heading judge.py."""
import itertools
import random
import unittest

import plainly
from followsortable import judge
from followsortable.basis import follows_mvd
from followsortable.chase import follows
from followsortable.closure import follows_fd
from followsortable.dependency import Fd, Jd, Mvd
from followsortable.judge import takes

BIG = 10 ** 30
SETS = plainly.subsets(range(4))
TARGETS = [kind(left, right) for kind in (Fd, Mvd) for left in SETS for right in SETS]
# 0: 0 > 1; 1: 2 >> 3; 2: a join dependency; 3: 1 > 3; 4: 3 >> 1; 5: 3 > 2; 6: 0 >> 2 3
TOLD = [
    Fd([0], [1]), Mvd([2], [3]), Jd([[0, 1], [1, 2, 3]]), Fd([1], [3]), Mvd([3], [1]), Fd([3], [2]),
    Mvd([0], [2, 3]),
]
# What is no set of the columns 0 to 3.
NO_SETS = ((1, 0), (0, 0), (0, 2, 1), (1, 1, 2), (4,), (0, 4), (-1,), (-1, 0), (0, BIG), (-BIG, 1))


class Derivations(unittest.TestCase):
    def takes(self, rows, target):
        before = (plainly.all_fields(TOLD), plainly.fields(target))
        found = takes(4, TOLD, target, True, ("derived", rows))
        self.assertIs(type(found), bool)
        self.assertEqual((plainly.all_fields(TOLD), plainly.fields(target)), before)
        return found

    def assert_tells(self, rows, target):
        """The rows tell the target and nothing else."""
        self.assertEqual([one for one in TARGETS if self.takes(rows, one)], [target])
        self.assertIs(takes(4, TOLD, target, False, ("derived", rows)), False)

    def assert_wrong(self, rows):
        """The rows tell nothing, neither themselves nor with a right row behind them."""
        for target in TARGETS + TOLD:
            self.assertIs(self.takes(rows, target), False)
        self.assertIs(self.takes(rows + (("told", 0),), TOLD[0]), False)

    def test_told(self):
        for index in (0, 1, 3, 4, 5, 6):
            self.assert_tells((("told", index),), TOLD[index])
        for index in (2, -1, -7, 7, 8, BIG, -BIG):
            self.assert_wrong((("told", index),))

    def test_within(self):
        for left in SETS:
            for right in SETS:
                if set(right) <= set(left):
                    self.assert_tells((("within", left, right),), Fd(left, right))
                elif len(left) + len(right) < 4:
                    self.assert_wrong((("within", left, right),))
        for wrong in NO_SETS:
            self.assert_wrong((("within", wrong, ()),))
            self.assert_wrong((("within", wrong, wrong),))
            self.assert_wrong((("within", (0, 1, 2, 3), wrong),))

    def test_with(self):
        first = (("told", 0),)
        self.assert_tells(first + (("with", 0, ()),), Fd([0], [1]))
        self.assert_tells(first + (("with", 0, (2,)),), Fd([0, 2], [1, 2]))
        self.assert_tells(first + (("with", 0, (0, 1, 3)),), Fd([0, 1, 3], [0, 1, 3]))
        for wrong in NO_SETS:
            self.assert_wrong(first + (("with", 0, wrong),))
        for row in (-1, 1, 2, BIG, -BIG):
            self.assert_wrong(first + (("with", row, (2,)),))
        self.assert_wrong(first + (("with", 1, (2,)), ("told", 0)))
        self.assert_wrong(first + (("with", 2, (2,)), ("told", 0)))
        self.assert_wrong((("told", 1), ("with", 0, (2,))))

    def test_through(self):
        first = (("told", 0), ("told", 3), ("told", 5), ("told", 1), ("told", 4))
        self.assert_tells(first + (("through", 0, 1),), Fd([0], [3]))
        self.assert_tells(first + (("through", 1, 2),), Fd([1], [2]))
        for numbers in ((1, 0), (0, 2), (0, 0), (-5, 1), (0, -4), (5, 1), (0, 5), (6, 1), (0, 6), (0, BIG), (-BIG, 1)):
            self.assert_wrong(first + (("through",) + numbers,))
        # The sides of many-valued dependencies, however well they fit.
        for numbers in ((3, 2), (2, 3), (4, 3), (3, 4), (1, 4)):
            self.assert_wrong(first + (("through",) + numbers,))
        self.assert_wrong((("within", (0, 1), (1,)), ("within", (0, 1), (0, 1)), ("through", 0, 1)))
        self.assert_wrong((("within", (0, 1), (0, 1)), ("within", (0,), (0,)), ("through", 0, 1)))
        self.assert_tells((("within", (0, 1), (1,)), ("within", (0, 1), (0, 1)), ("through", 1, 0)), Fd([0, 1], [1]))

    def test_also(self):
        self.assert_tells((("told", 0), ("also", 0)), Mvd([0], [1]))
        self.assert_tells((("told", 1), ("told", 5), ("also", 1)), Mvd([3], [2]))
        for row in (-1, -2, 1, 2, BIG, -BIG):
            self.assert_wrong((("told", 0), ("also", row)))
        self.assert_wrong((("told", 1), ("also", 0)))
        self.assert_wrong((("told", 0), ("also", 2), ("told", 0)))

    def test_other(self):
        self.assert_tells((("told", 1), ("other", 0)), Mvd([2], [0, 1]))
        self.assert_tells((("told", 6), ("other", 0)), Mvd([0], [1]))
        self.assert_tells((("told", 1), ("other", 0), ("other", 1)), Mvd([2], [3]))
        both = (("within", (0, 1), (1,)), ("also", 0), ("other", 1))
        self.assert_tells(both, Mvd([0, 1], [2, 3]))
        self.assert_tells(both + (("other", 2),), Mvd([0, 1], []))
        for row in (-1, -2, 1, 2, BIG, -BIG):
            self.assert_wrong((("told", 1), ("other", row)))
        self.assert_wrong((("told", 0), ("other", 0)))

    def test_wide(self):
        first = (("told", 1),)
        self.assert_tells(first + (("wide", 0, (), ()),), Mvd([2], [3]))
        self.assert_tells(first + (("wide", 0, (0, 1), (1,)),), Mvd([0, 1, 2], [1, 3]))
        self.assert_tells(first + (("wide", 0, (0, 2), ()),), Mvd([0, 2], [3]))
        self.assert_tells(first + (("wide", 0, (2, 3), (2, 3)),), Mvd([2, 3], [2, 3]))
        for columns, some in (((), (0,)), ((1,), (0,)), ((1,), (0, 1)), ((3,), (2,))):
            self.assert_wrong(first + (("wide", 0, columns, some),))
        for wrong in NO_SETS:
            self.assert_wrong(first + (("wide", 0, wrong, ()),))
            self.assert_wrong(first + (("wide", 0, wrong, wrong),))
            self.assert_wrong(first + (("wide", 0, (0, 1, 2, 3), wrong),))
        for row in (-1, 1, 2, BIG, -BIG):
            self.assert_wrong(first + (("wide", row, (0,), ()),))
        self.assert_wrong((("told", 0), ("wide", 0, (2,), ())))
        self.assert_wrong(first + (("wide", 2, (0,), ()), ("told", 1)))

    def test_beyond(self):
        first = (("told", 1), ("told", 4), ("told", 0), ("told", 3), ("told", 5))
        self.assert_tells(first + (("beyond", 0, 1),), Mvd([2], [1]))
        more = first + (("wide", 1, (3,), (3,)), ("beyond", 0, 5))
        self.assert_tells(more, Mvd([2], [1]))
        for numbers in ((1, 0), (0, 0), (-5, 1), (0, -4), (5, 1), (0, 5), (6, 1), (0, 6), (0, BIG), (-BIG, 1)):
            self.assert_wrong(first + (("beyond",) + numbers,))
        # The sides of functional dependencies, however well they fit.
        for numbers in ((2, 3), (4, 0), (0, 4), (3, 1)):
            self.assert_wrong(first + (("beyond",) + numbers,))

    def test_meets(self):
        first = (("told", 6), ("told", 3), ("told", 5), ("told", 0), ("told", 1), ("told", 4))
        self.assert_tells(first + (("meets", 0, 1),), Fd([0], [3]))
        narrow = first + (("within", (1,), ()), ("meets", 4, 6))
        self.assert_tells(narrow, Fd([2], []))
        self.assert_tells(first + (("within", (), ()), ("meets", 0, 6)), Fd([0], []))
        # A column of the left side is in the columns, or the right side is not within them.
        for numbers in ((0, 2), (0, 3), (4, 2), (4, 3), (5, 1)):
            self.assert_wrong(first + (("meets",) + numbers,))
        self.assert_wrong((("told", 6), ("within", (0, 3), (3,)), ("meets", 0, 1)))
        # Rows that tell the other kind.
        for numbers in ((1, 0), (3, 1), (0, 4), (0, 0), (3, 3), (0, 5)):
            self.assert_wrong(first + (("meets",) + numbers,))
        for numbers in ((-6, 1), (0, -5), (6, 1), (0, 6), (7, 1), (0, 7), (BIG, 1), (0, -BIG)):
            self.assert_wrong(first + (("meets",) + numbers,))

    def test_no_rows(self):
        for target in TARGETS + TOLD:
            self.assertIs(self.takes((), target), False)

    def test_a_last_row_that_tells_something_else(self):
        rows = (("told", 0), ("told", 3), ("through", 0, 1))
        self.assertIs(self.takes(rows, Fd([0], [3])), True)
        self.assertIs(self.takes(rows, Mvd([0], [3])), False)
        self.assertIs(self.takes(rows, Fd([0], [1])), False)
        self.assertIs(self.takes(rows, Fd([0], [1, 3])), False)
        self.assertIs(self.takes(rows + (("told", 0),), Fd([0], [3])), False)
        self.assertIs(self.takes(rows, Jd([[0, 3], [0, 1, 2]])), False)
        self.assertIs(self.takes((("told", 2),), TOLD[2]), False)

    def test_a_wrong_row_that_is_not_needed(self):
        self.assertIs(self.takes((("told", 7), ("told", 0)), TOLD[0]), False)
        self.assertIs(self.takes((("told", 0), ("also", 0), ("also", 1), ("told", 0)), TOLD[0]), False)

    def test_more_columns_and_more_rows(self):
        told = [Fd([9], [0])]
        self.assertIs(takes(10, told, Fd([9], [0]), True, ("derived", (("told", 0),))), True)
        self.assertIs(takes(10, told, Fd([9], [9]), True, ("derived", (("within", (9,), (9,)),))), True)
        self.assertIs(takes(9, [], Fd([9], [9]), True, ("derived", (("within", (9,), (9,)),))), False)
        rows = (("told", 0),) * 2999 + (("with", 2998, (9,)),)
        self.assertIs(takes(10, told, Fd([9], [0, 9]), True, ("derived", rows)), True)
        columns = tuple(range(3000))
        self.assertIs(takes(10, told, Fd([9], [9]), True, ("derived", (("within", columns, (9,)),))), False)


class Steps(unittest.TestCase):
    """0: 0 > 1; 1: 2 >> 3; 2: [0 1] [1 2] [2 3]; 3: 3 > 0 1"""

    told = [Fd([0], [1]), Mvd([2], [3]), Jd([[0, 1], [1, 2], [2, 3]]), Fd([3], [0, 1])]

    def takes(self, target, steps, verdict=True):
        found = takes(4, self.told, target, verdict, ("chased", steps))
        self.assertIs(type(found), bool)
        self.assertIs(plainly.takes(4, self.told, target, verdict, ("chased", steps)), found)
        return found

    def assert_only(self, target, steps):
        """The steps are right, and none of them with one number changed."""
        self.assertIs(self.takes(target, steps), True)
        self.assertIs(self.takes(target, steps, False), False)
        for at, step in enumerate(steps):
            for changed in self.changed(step):
                self.assertIs(self.takes(target, steps[:at] + (changed,) + steps[at + 1:]), False)

    def changed(self, step):
        numbers = (-BIG, -4, -3, -2, -1, 0, 1, 2, 3, 4, 5, 6, BIG)
        for at in range(1, 5 if step[0] == "same" else 2):
            for number in numbers:
                if number != step[at] and (step[0], at) not in (("same", 2), ("same", 3)):
                    yield step[:at] + (number,) + step[at + 1:]
        if step[0] == "same":
            for number in (-1, -2, -3, 4, 5, BIG, step[3]):
                yield step[:2] + (number,) + step[3:]
            for number in (-1, -2, -3, 4, 5, BIG, step[2]):
                yield step[:3] + (number,) + step[4:]
            yield ("join", step[1], step[2:4])
        else:
            rows = step[2]
            for other in (rows + rows[-1:], rows[:-1], (), rows + (0,), (0,) * 3000):
                yield ("join", step[1], other)
            for at in range(len(rows)):
                for number in (-1, -2, 5, BIG):
                    yield ("join", step[1], rows[:at] + (number,) + rows[at + 1:])
            yield ("same", step[1], 0, 1, 3)

    def test_same(self):
        self.assert_only(Fd([0], [1]), (("same", 0, 0, 1, 1),))
        self.assert_only(Fd([0], [1]), (("same", 0, 1, 0, 1),))
        self.assert_only(Fd([3], [0]), (("same", 3, 0, 1, 0),))
        self.assertIs(self.takes(Fd([3], [0, 1]), (("same", 3, 0, 1, 0), ("same", 3, 1, 0, 1))), True)
        self.assertIs(self.takes(Fd([3], [0, 1]), (("same", 3, 0, 1, 0), ("same", 0, 0, 1, 1))), True)
        self.assertIs(self.takes(Fd([3], [0, 1]), (("same", 0, 0, 1, 1), ("same", 3, 0, 1, 0))), False)

    def test_same_wrong(self):
        # The rows agree on the left side in none of these, or already in the column.
        self.assertIs(self.takes(Fd([2], [1]), (("same", 0, 0, 1, 1),)), False)
        self.assertIs(self.takes(Fd([0], [1]), (("same", 0, 0, 0, 1),)), False)
        self.assertIs(self.takes(Fd([0], [1]), (("same", 0, 0, 1, 1), ("same", 0, 0, 1, 1))), False)
        self.assertIs(self.takes(Fd([0, 1], [1]), (("same", 0, 0, 1, 1),)), False)
        # The column is not in the right side, though the rows do not agree in it.
        self.assertIs(self.takes(Fd([0], [0]), (("same", 0, 0, 1, 2),)), False)
        self.assertIs(self.takes(Fd([0], [0]), (("same", 0, 0, 1, 0),)), False)
        self.assertIs(self.takes(Fd([3], [3]), (("same", 3, 0, 1, 2),)), False)

    def test_same_takes_the_place_in_all_rows(self):
        target = Jd([[0, 1], [0, 2], [0, 3], [1, 2, 3]])
        # Rows: 0 0 1 1, 0 2 0 2, 0 3 3 0, 4 0 0 0.
        first = (("same", 0, 0, 1, 1), ("same", 0, 0, 2, 1))
        self.assertIs(self.takes(target, first), False)
        self.assertIs(self.takes(target, first + (("same", 0, 1, 2, 1),)), False)
        self.assertIs(self.takes(target, first + (("same", 3, 2, 3, 0),)), True)
        self.assertIs(self.takes(target, first[:1] + (("same", 0, 1, 2, 1), ("same", 3, 2, 3, 0))), True)

    def test_join_of_a_many_valued_dependency(self):
        self.assert_only(Mvd([2], [3]), (("join", 1, (0, 1)),))
        self.assert_only(Mvd([2], [0, 1]), (("join", 1, (1, 0)),))
        self.assertIs(self.takes(Mvd([2], [3]), (("join", 1, (1, 0)),)), False)
        self.assertIs(self.takes(Mvd([2], [3]), (("join", 1, (0, 0)),)), False)
        self.assertIs(self.takes(Mvd([2], [3]), (("join", 1, (0, 0)), ("join", 1, (2, 1)))), True)
        self.assertIs(self.takes(Mvd([1], [3]), (("join", 1, (0, 1)),)), False)

    def test_join_of_a_join_dependency(self):
        target = Jd([[0, 1], [1, 2], [2, 3]])
        self.assert_only(target, (("join", 2, (0, 1, 2)),))
        target = Jd([[0, 1, 2], [2, 3]])
        self.assert_only(target, (("join", 2, (0, 0, 1)),))
        self.assertIs(self.takes(target, (("join", 2, (0, 1, 1)),)), False)
        self.assertIs(self.takes(target, (("join", 2, (1, 0, 1)),)), False)
        self.assertIs(self.takes(target, (("join", 2, (0, 0, 0)),)), False)
        self.assertIs(self.takes(target, (("join", 2, (0, 0, 0)), ("join", 2, (2, 0, 1)))), True)
        self.assertIs(self.takes(target, (("join", 2, (0, 0, 2)),)), False)

    def test_a_row_is_added_also_if_it_is_there(self):
        steps = (("join", 1, (0, 0)), ("join", 1, (0, 0)), ("join", 1, (3, 1)))
        self.assertIs(self.takes(Mvd([2], [3]), steps), True)
        self.assertIs(self.takes(Mvd([2], [3]), steps[1:]), False)
        self.assertIs(self.takes(Mvd([2], [3]), (("join", 1, (0, 0)),) * 500 + (("join", 1, (501, 1)),)), True)
        self.assertIs(self.takes(Mvd([2], [3]), (("join", 1, (0, 0)),) * 500 + (("join", 1, (502, 1)),)), False)

    def test_the_goal_before_the_last_step(self):
        self.assertIs(self.takes(Fd([0], [0]), (("same", 0, 0, 1, 1),)), True)
        self.assertIs(self.takes(Fd([0], [0]), (("same", 0, 0, 1, 1), ("same", 0, 0, 1, 1))), False)
        self.assertIs(self.takes(Mvd([2], [3]), (("join", 1, (0, 1)), ("join", 2, (0, 0, 0)))), True)
        self.assertIs(self.takes(Mvd([2], [3]), (("join", 1, (0, 1)), ("join", 2, (0, 0, 9)))), False)
        self.assertIs(self.takes(Mvd([0], [1]), (("same", 0, 0, 1, 1),)), True)

    def test_the_goal_not_reached(self):
        self.assertIs(self.takes(Fd([0], [1]), ()), False)
        self.assertIs(self.takes(Mvd([2], [3]), ()), False)
        self.assertIs(self.takes(Jd([[0, 1], [1, 2, 3]]), ()), False)
        self.assertIs(self.takes(Fd([0], [1, 2]), (("same", 0, 0, 1, 1),)), False)

    def test_no_steps(self):
        self.assertIs(self.takes(Fd([0, 1], [1]), ()), True)
        self.assertIs(self.takes(Fd([], []), ()), True)
        self.assertIs(self.takes(Mvd([0, 1], [2, 3]), ()), True)
        self.assertIs(self.takes(Mvd([0, 1], [1]), ()), True)
        self.assertIs(self.takes(Jd([[0, 1, 2, 3], [0]]), ()), True)
        self.assertIs(self.takes(Jd([[0, 1, 2, 3]]), ()), True)

    def test_many_steps(self):
        steps = tuple(("join", 1, (0, at)) for at in range(2, 3000))
        self.assertIs(self.takes(Mvd([2], [3]), (("join", 1, (0, 0)),) + steps), False)
        self.assertIs(self.takes(Mvd([2], [3]), (("join", 1, (0, 1)),) + steps), True)


class Tables(unittest.TestCase):
    told = [Fd([0], [1]), Mvd([1], [2])]

    def takes(self, target, rows, verdict=False):
        return takes(3, self.told, target, verdict, ("table", rows))

    def test_right(self):
        rows = ((0, 0, 0), (1, 0, 0))
        self.assertIs(self.takes(Fd([1], [0]), rows), True)
        self.assertIs(self.takes(Fd([], [0]), rows), True)
        self.assertIs(self.takes(Mvd([], [0]), rows), False)
        self.assertIs(self.takes(Fd([0], [2]), rows), False)
        self.assertIs(self.takes(Fd([1], [0]), rows, True), False)
        self.assertIs(self.takes(Fd([0], [2]), rows, True), False)

    def test_told_ones_that_are_broken(self):
        self.assertIs(self.takes(Fd([], [0]), ((0, 0, 0), (0, 1, 0), (1, 1, 0))), False)
        self.assertIs(self.takes(Fd([], [0]), ((0, 0, 0), (1, 0, 1))), False)
        self.assertIs(self.takes(Fd([], [0]), ((0, 0, 0), (1, 0, 1), (0, 0, 1), (1, 0, 0))), True)

    def test_no_rows(self):
        for target in TARGETS[:1] + [Fd([0], [2]), Mvd([], [0]), Jd([[0], [1, 2]])]:
            self.assertIs(self.takes(target, ()), False)

    def test_one_row(self):
        self.assertIs(self.takes(Fd([], [0, 1, 2]), ((7, 8, 9),)), False)

    def test_rows_too_short_or_too_long(self):
        for row in ((), (0,), (1, 0), (1, 0, 0, 0), (0,) * 3000):
            for rows in (((0, 0, 0), (1, 0, 0), row), (row, (0, 0, 0), (1, 0, 0)), (row,), (row, row)):
                self.assertIs(self.takes(Fd([1], [0]), rows), False)
        self.assertIs(self.takes(Fd([1], [0]), ((0, 0, 0, 0), (1, 0, 0, 0))), False)
        self.assertIs(self.takes(Fd([1], [0]), ((0, 0), (1, 0))), False)

    def test_any_order_and_repeats(self):
        rows = [(0, 0, 0), (1, 0, 1), (0, 0, 1), (1, 0, 0)]
        for order in itertools.permutations(rows):
            self.assertIs(self.takes(Fd([], [0]), order), True)
            self.assertIs(self.takes(Fd([], [0]), order + order[1:3]), True)
        self.assertIs(self.takes(Fd([], [0]), (rows[0],) * 200), False)

    def test_numbers_of_any_size(self):
        for a, b in itertools.permutations((0, 1, -1, BIG, -BIG, 10 ** 400, -10 ** 400), 2):
            self.assertIs(self.takes(Fd([1], [0]), ((a, b, a), (b, b, a))), True)
            self.assertIs(self.takes(Fd([0], [2]), ((a, b, a), (b, b, a))), False)

    def test_join_dependencies(self):
        told = [Jd([[0, 1], [1, 2]])]
        target = Jd([[0, 1], [1, 2], [0, 2]])
        rows = ((0, 0, 0), (0, 0, 1), (1, 0, 0), (1, 0, 1))
        self.assertIs(takes(3, told, Jd([[0], [1, 2]]), False, ("table", rows)), False)
        self.assertIs(takes(3, told, target, False, ("table", rows)), False)
        cyclic = ((0, 0, 1), (0, 1, 0), (1, 0, 0))
        self.assertIs(takes(3, [target], told[0], False, ("table", cyclic)), False)
        self.assertIs(takes(3, [target], told[0], False, ("table", cyclic + ((0, 0, 0),))), True)
        self.assertIs(takes(3, told, target, False, ("table", cyclic)), False)

    def test_many_rows(self):
        rows = tuple((at, at // 2, 0) for at in range(200))
        self.assertIs(self.takes(Fd([1], [0]), rows), True)
        self.assertIs(self.takes(Fd([1], [0]), rows[::2]), False)


class Papers(unittest.TestCase):
    def test_the_other_word(self):
        told, target = [Fd([0], [1])], Fd([0], [1])
        rows, steps, table = (("told", 0),), (("same", 0, 0, 1, 1),), ((0, 0), (0, 1))
        self.assertIs(takes(2, told, target, True, ("derived", rows)), True)
        self.assertIs(takes(2, told, target, True, ("chased", steps)), True)
        self.assertIs(takes(2, told, target, True, ("table", table)), False)
        self.assertIs(takes(2, told, target, False, ("derived", rows)), False)
        self.assertIs(takes(2, told, target, False, ("chased", steps)), False)
        self.assertIs(takes(2, [], target, False, ("table", table)), True)
        self.assertIs(takes(2, [], target, True, ("table", table)), False)

    def test_rows_and_steps_of_another_form(self):
        """Nothing is promised of these; they are wrong papers all the same."""
        told, target = [Fd([0], [1])], Fd([0], [1])
        for row in (("tells", 0), ("told",), ("told", 0, 0), ("also",), ("within", (0,)), ("meets", 0)):
            self.assertIs(takes(2, told, target, True, ("derived", (row,))), False)
            self.assertIs(takes(2, told, target, True, ("derived", (row, ("told", 0)))), False)
        for step in (("same", 0, 0, 1), ("same", 0, 0, 1, 1, 1), ("join", 0), ("make", 0, 0, 1, 1)):
            self.assertIs(takes(2, told, target, True, ("chased", (step,))), False)
            self.assertIs(takes(2, told, target, True, ("chased", (step, ("same", 0, 0, 1, 1)))), False)
        self.assertIs(takes(2, told, target, True, ("traced", (("same", 0, 0, 1, 1),))), False)

    def some_case(self, chance):
        count = chance.choice((2, 3, 3, 4))
        told = [plainly.some_pair(chance, count) for _ in range(chance.randrange(5))]
        if chance.random() < 0.3:
            told.append(plainly.some_jd(chance, count, chance.choice((2, 3))))
        target = plainly.some_pair(chance, count)
        if chance.random() < 0.3:
            target = plainly.some_jd(chance, count, chance.choice((2, 3, 4)))
        return count, told, target

    def answers(self, count, told, target):
        """The papers that all functions give that may be asked."""
        found = [follows(count, told, target)]
        if all(not isinstance(one, Jd) for one in told + [target]):
            found.append(follows_mvd(count, told, target))
        if all(isinstance(one, Fd) for one in told + [target]):
            found.append(follows_fd(count, told, target))
        return found

    def changed(self, chance, value):
        """A paper with one thing in it changed, left out or doubled."""
        if isinstance(value, str):
            return value
        if isinstance(value, int):
            return chance.choice((value + 1, value - 1, -value, 0, 1, 2, 3, BIG))
        at = chance.randrange(len(value)) if value else 0
        wordy = bool(value) and isinstance(value[0], str)
        if not wordy and (not value or chance.random() < 0.3):
            some = value[at:at + 1] or (chance.randrange(4),)
            return chance.choice((value[:at] + value[at + 1:], value + some, value[:at] + some + value[at:]))
        return value[:at] + (self.changed(chance, value[at]),) + value[at + 1:]

    def fit(self, paper):
        """Whether each part of a changed paper is still of its kind."""
        word, content = paper
        if not isinstance(content, tuple):
            return False
        if word == "table":
            return all(isinstance(row, tuple) for row in content)
        return all(isinstance(row, tuple) and row and isinstance(row[0], str) for row in content)

    def test_changed_papers_of_the_program(self):
        chance = random.Random(41)
        seen = {True: 0, False: 0}
        for turn in range(700):
            count, told, target = self.some_case(chance)
            for verdict, paper in self.answers(count, told, target):
                self.assertIs(takes(count, told, target, verdict, paper), True)
                self.assertIs(takes(count, told, target, not verdict, paper), False)
                for more in range(8):
                    other = self.changed(chance, paper)
                    if self.fit(other):
                        found = takes(count, told, target, verdict, other)
                        self.assertIs(found, plainly.takes(count, told, target, verdict, other))
                        self.assertIs(takes(count, told, target, not verdict, other), False)
                        seen[found] += 1
        self.assertGreater(min(seen.values()), 300)

    def test_no_paper_of_an_answer_that_is_not_true(self):
        chance = random.Random(42)
        for turn in range(500):
            count, told, target = self.some_case(chance)
            other = self.some_case(chance)
            for _, paper in self.answers(count, told, target) + self.answers(*other):
                for asked in (target, plainly.some_pair(chance, count)):
                    right = follows(count, told, asked)[0]
                    for claim in (True, False):
                        if takes(count, told, asked, claim, paper):
                            self.assertIs(claim, right)

    def test_papers_and_arguments_stay(self):
        told, target = [Fd([0], [1]), Mvd([1], [2])], Fd([0], [1])
        rows = (("told", 0), ("also", 0), ("told", 0))
        paper = ("derived", rows)
        self.assertIs(takes(3, told, target, True, paper), True)
        self.assertEqual(paper, ("derived", (("told", 0), ("also", 0), ("told", 0))))
        self.assertEqual(plainly.all_fields(told), [("Fd", (0,), (1,)), ("Mvd", (1,), (2,))])
        self.assertIs(takes(3, tuple(told), target, True, paper), True)

    def test_defined_here(self):
        self.assertEqual(takes.__module__, "followsortable.judge")
        self.assertIs(judge.takes, takes)


if __name__ == "__main__":
    unittest.main()
