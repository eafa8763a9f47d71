"""Dependencies: points 3 and 9, and the heading dependency.py."""
import random
import unittest

from followsortable.dependency import Fd, Jd, Mvd
from followsortable.table import Table

# Objects that are no dependencies, among them such as look like one.
OTHERS = ((), ((0,), (1,)), [(0,), (1,)], 0, 1, -3, "0 > 1", None, {}, object(), Table((0,), [(1,)]))


class Alike:
    """An object of another kind with the fields of all dependencies."""

    left = (0,)
    right = (1,)
    parts = ((0,), (1,))


class Equal:
    """An object that says of itself to be equal to everything."""

    def __eq__(self, other):
        return True


def shuffled(columns, chance):
    """The same columns in another order and with repeats."""
    more = list(columns) + [chance.choice(columns) for place in range(3) if columns]
    chance.shuffle(more)
    return more


class Sides(unittest.TestCase):
    def test_fields(self):
        for kind in (Fd, Mvd):
            dependency = kind([3, 0, 3], [2, 1, 1, 2])
            self.assertEqual(vars(dependency), {"left": (0, 3), "right": (1, 2)})
            dependency = kind((), ())
            self.assertEqual(vars(dependency), {"left": (), "right": ()})
            dependency = kind((9, 8), [9])
            self.assertEqual(vars(dependency), {"left": (8, 9), "right": (9,)})

    def test_fields_of_lists_in_any_order(self):
        chance = random.Random(9)
        for left in ((), (0,), (1, 4), tuple(range(10))):
            for right in ((), (4,), (0, 1, 9), tuple(range(10))):
                for kind in (Fd, Mvd):
                    made = kind(shuffled(left, chance), shuffled(right, chance))
                    self.assertEqual((made.left, made.right), (left, right))
                    self.assertIs(made == kind(left, right), True)
                    self.assertIs(made != kind(left, right), False)

    def test_other_sides(self):
        for kind in (Fd, Mvd):
            told = kind([0, 1], [2])
            for other in (kind([0], [2]), kind([0, 1], [2, 3]), kind([2], [0, 1]), kind([], [])):
                self.assertIs(told == other, False)
                self.assertIs(told != other, True)

    def test_another_class(self):
        self.assertIs(Fd([0], [1]) == Mvd([0], [1]), False)
        self.assertIs(Mvd([0], [1]) == Fd([0], [1]), False)
        self.assertIs(Fd([0], [1]) == Jd([[0], [1]]), False)
        self.assertIs(Mvd([0], [1]) == Jd([[0], [1]]), False)

    def test_objects_of_another_kind(self):
        for kind in (Fd, Mvd):
            for other in OTHERS + (Alike(), Equal()):
                self.assertIs(kind([0], [1]) == other, False)

    def test_a_list_is_copied(self):
        for kind in (Fd, Mvd):
            left, right = [1, 0], [2]
            made = kind(left, right)
            self.assertEqual((left, right), ([1, 0], [2]))
            left.append(5)
            right.clear()
            self.assertEqual((made.left, made.right), ((0, 1), (2,)))

    def test_methods_are_defined_in_the_class(self):
        for kind in (Fd, Mvd, Jd):
            self.assertEqual(kind.__module__, "followsortable.dependency")
            self.assertIn("__init__", vars(kind))
            self.assertIn("__eq__", vars(kind))


class Parts(unittest.TestCase):
    def test_fields(self):
        self.assertEqual(vars(Jd([[1, 0, 1], (2, 1)])), {"parts": ((0, 1), (1, 2))})
        self.assertEqual(vars(Jd([[]])), {"parts": ((),)})
        self.assertEqual(vars(Jd(([2, 1], [2, 1], [0]))), {"parts": ((1, 2), (1, 2), (0,))})

    def test_the_order_of_the_parts_stays(self):
        self.assertEqual(Jd([[5], [0], [3]]).parts, ((5,), (0,), (3,)))

    def test_equal(self):
        self.assertIs(Jd([[0, 1], [1, 2]]) == Jd(([1, 0, 0], (2, 1))), True)
        self.assertIs(Jd([[0, 1], [1, 2]]) != Jd([[1, 0], [1, 2]]), False)

    def test_not_equal(self):
        told = Jd([[0, 1], [1, 2]])
        others = [[[1, 2], [0, 1]], [[0, 1]], [[0, 1], [1, 2], [1, 2]], [[0, 1], [2]], [[0, 1, 2]]]
        for other in others:
            self.assertIs(told == Jd(other), False)
            self.assertIs(told != Jd(other), True)

    def test_objects_of_another_kind(self):
        told = Jd([[0], [1]])
        for other in OTHERS + (Fd([0], [1]), Mvd([0], [1]), told.parts, Alike(), Equal()):
            self.assertIs(told == other, False)

    def test_lists_are_copied(self):
        first = [1, 0]
        parts = [first, [2]]
        made = Jd(parts)
        self.assertEqual(parts, [[1, 0], [2]])
        first.append(7)
        parts.append([3])
        parts[1] = [4]
        self.assertEqual(made.parts, ((0, 1), (2,)))


if __name__ == "__main__":
    unittest.main()
