"""A store: points 1 to 5 and 35, and the heading store.py."""
import random
import time
import unittest

import plainly
from followsortable import errors, store
from followsortable.dependency import Fd
from followsortable.errors import Broken, NoMark, TableError
from followsortable.store import Store

BIG = 10 ** 40


class Plain:
    """A store as point 35 tells it, by a list of rows behind each change."""

    def __init__(self, fds):
        self.fds = list(fds)
        self.past = [[]]

    def insert(self, row):
        """True, False, or the index of the first dependency that would be broken."""
        rows = self.past[-1]
        if row in rows:
            return False
        for index, fd in enumerate(self.fds):
            if any(plainly.agree(row, other, fd.left) and not plainly.agree(row, other, fd.right) for other in rows):
                return ("Broken", index)
        self.past.append(rows + [row])
        return True

    def remove(self, row):
        rows = self.past[-1]
        if row in rows:
            self.past.append([other for other in rows if other != row])
        return row in rows

    def back(self, mark):
        if mark < 0 or mark > len(self.past) - 1:
            return ("NoMark", mark)
        del self.past[mark + 1:]
        return None


def told_by(call, *arguments):
    """What a call returns, or the error that it raises."""
    try:
        return call(*arguments)
    except Broken as error:
        return ("Broken", error.index)
    except NoMark as error:
        return ("NoMark", error.mark)


class ByHand(unittest.TestCase):
    def test_empty(self):
        made = Store(3, [Fd([0], [1])])
        self.assertEqual((made.rows(), made.mark(), made.find((), ()), made.find((0,), (1,))), ([], 0, [], []))
        self.assertIs(made.remove((1, 2, 3)), False)
        self.assertIs(made.back(0), None)
        self.assertEqual((made.rows(), made.mark()), ([], 0))

    def test_insert_and_remove(self):
        made = Store(3, [Fd([0], [1]), Fd([1], [2])])
        self.assertIs(made.insert((5, 2, 3)), True)
        self.assertIs(made.insert([1, 2, 3]), True)
        self.assertIs(made.insert((1, 2, 3)), False)
        self.assertIs(made.insert([5, 2, 3]), False)
        self.assertEqual((made.rows(), made.mark()), ([(1, 2, 3), (5, 2, 3)], 2))
        for row, index in (((1, 4, 3), 0), ((1, 4, 9), 0), ((7, 2, 4), 1), ([5, 0, 0], 0), ((1, 2, 4), 1)):
            with self.assertRaises(Broken) as caught:
                made.insert(row)
            self.assertEqual(vars(caught.exception), {"index": index})
            self.assertEqual((made.rows(), made.mark()), ([(1, 2, 3), (5, 2, 3)], 2))
        self.assertIs(made.remove((1, 4, 3)), False)
        self.assertEqual(made.mark(), 2)
        self.assertIs(made.remove([1, 2, 3]), True)
        self.assertEqual((made.rows(), made.mark()), ([(5, 2, 3)], 3))
        self.assertIs(made.remove((1, 2, 3)), False)
        self.assertIs(made.insert((1, 4, 3)), True)
        self.assertEqual((made.rows(), made.mark()), ([(1, 4, 3), (5, 2, 3)], 4))

    def test_the_first_dependency_that_is_broken_with_any_row(self):
        # The row that was there first breaks the last dependency, a later one the first.
        made = Store(3, [Fd([0], [1]), Fd([1], [0]), Fd([2], [0])])
        made.insert((1, 1, 1))
        made.insert((2, 2, 2))
        for row, index in (((3, 3, 1), 2), ((2, 3, 1), 0), ((3, 2, 1), 1), ((1, 2, 1), 0)):
            self.assertEqual(told_by(made.insert, row), ("Broken", index))

    def test_a_dependency_told_twice_and_those_that_nothing_breaks(self):
        made = Store(2, [Fd([0, 1], [1]), Fd([], []), Fd([0], [1]), Fd([0], [1])])
        made.insert((1, 2))
        self.assertEqual(told_by(made.insert, (1, 3)), ("Broken", 2))

    def test_empty_left_sides(self):
        made = Store(2, [Fd([], [1])])
        self.assertIs(made.insert((1, 5)), True)
        self.assertIs(made.insert((2, 5)), True)
        self.assertEqual(told_by(made.insert, (3, 6)), ("Broken", 0))
        self.assertEqual(told_by(made.insert, (1, 6)), ("Broken", 0))
        self.assertIs(made.insert((2, 5)), False)
        self.assertIs(made.remove((1, 5)), True)
        self.assertEqual(told_by(made.insert, (3, 6)), ("Broken", 0))
        self.assertIs(made.remove((2, 5)), True)
        self.assertIs(made.insert((3, 6)), True)
        self.assertEqual(made.rows(), [(3, 6)])

    def test_find(self):
        made = Store(3, [])
        for row in ((1, 2, 3), (1, 2, 4), (5, 2, 3), (-1, BIG, 0), (1, -2, 3)):
            made.insert(row)
        self.assertEqual(made.find((0,), (1,)), [(1, -2, 3), (1, 2, 3), (1, 2, 4)])
        self.assertEqual(made.find((1, 2), [2, 3]), [(1, 2, 3), (5, 2, 3)])
        self.assertEqual(made.find((1, 2), (3, 2)), [])
        self.assertEqual(made.find((0, 1, 2), (1, 2, 4)), [(1, 2, 4)])
        self.assertEqual(made.find((0, 1, 2), [1, 2, 5]), [])
        self.assertEqual(made.find((), ()), made.rows())
        self.assertEqual(made.find((), []), made.rows())
        self.assertEqual(made.find((1,), (BIG,)), [(-1, BIG, 0)])
        self.assertEqual(made.mark(), 5)

    def test_back(self):
        made = Store(2, [Fd([0], [1])])
        made.insert((1, 2))
        made.insert((3, 4))
        made.remove((1, 2))
        made.insert((1, 7))
        self.assertIs(made.back(4), None)
        self.assertEqual((made.rows(), made.mark()), ([(1, 7), (3, 4)], 4))
        self.assertIs(made.back(3), None)
        self.assertEqual((made.rows(), made.mark()), ([(3, 4)], 3))
        self.assertIs(made.back(2), None)
        self.assertEqual((made.rows(), made.mark()), ([(1, 2), (3, 4)], 2))
        self.assertEqual(told_by(made.insert, (1, 7)), ("Broken", 0))
        self.assertIs(made.remove((3, 4)), True)
        self.assertEqual(made.mark(), 3)
        self.assertIs(made.back(1), None)
        self.assertEqual((made.rows(), made.mark()), ([(1, 2)], 1))
        self.assertIs(made.back(0), None)
        self.assertEqual((made.rows(), made.mark()), ([], 0))
        self.assertIs(made.insert((1, 7)), True)

    def test_no_mark(self):
        made = Store(1, [])
        for many in range(4):
            for mark in (-1, -2, many + 1, many + 2, BIG, -BIG):
                with self.assertRaises(NoMark) as caught:
                    made.back(mark)
                self.assertEqual(vars(caught.exception), {"mark": mark})
                self.assertEqual((made.rows(), made.mark()), ([(at,) for at in range(many)], many))
            made.insert((many,))

    def test_calls_that_change_nothing_are_no_changes(self):
        made = Store(2, [Fd([0], [1])])
        made.insert((1, 2))
        made.insert((1, 2))
        told_by(made.insert, (1, 3))
        made.remove((4, 4))
        told_by(made.back, 7)
        made.rows()
        made.find((0,), (1,))
        made.back(1)
        self.assertEqual(made.mark(), 1)
        made.back(0)
        self.assertEqual(made.rows(), [])

    def test_lists_that_are_changed_later(self):
        fds = [Fd([0], [1])]
        made = Store(2, fds)
        row = [1, 2]
        made.insert(row)
        row[1] = 9
        row.append(3)
        fds.append(Fd([1], [0]))
        fds[0] = Fd([], [0])
        self.assertEqual(made.rows(), [(1, 2)])
        self.assertIs(made.insert((5, 2)), True)
        self.assertEqual(told_by(made.insert, (1, 3)), ("Broken", 0))
        fds.clear()
        self.assertEqual(told_by(made.insert, (1, 3)), ("Broken", 0))
        made.rows().clear()
        made.rows().append((8, 8))
        made.find((), ()).clear()
        made.find((1,), (2,)).reverse()
        self.assertEqual(made.rows(), [(1, 2), (5, 2)])
        self.assertEqual(made.find((), ()), [(1, 2), (5, 2)])

    def test_arguments_stay(self):
        fds, row, cells, columns = [Fd([0], [1])], [1, 2], [1], (0,)
        made = Store(2, fds)
        made.insert(row)
        made.find(columns, cells)
        made.remove(row)
        made.insert(row)
        self.assertEqual((plainly.all_fields(fds), row, cells), ([("Fd", (0,), (1,))], [1, 2], [1]))

    def test_two_stores_beside_one_another(self):
        fds = [Fd([0], [1])]
        first, second = Store(2, fds), Store(2, fds)
        first.insert((1, 2))
        self.assertEqual((second.rows(), second.mark()), ([], 0))
        self.assertIs(second.insert((1, 3)), True)
        first.back(0)
        self.assertEqual((first.rows(), second.rows(), second.mark()), ([], [(1, 3)], 1))

    def test_errors(self):
        self.assertEqual((Broken.__bases__, NoMark.__bases__), ((TableError,), (TableError,)))
        for error in (Broken, NoMark):
            self.assertEqual(error.__module__, "followsortable.errors")
            self.assertIs(getattr(errors, error.__name__), error)

    def test_methods_are_defined_in_the_class(self):
        for name in ("__init__", "insert", "remove", "rows", "find", "mark", "back"):
            self.assertIn(name, vars(Store))
        self.assertEqual(Store.__module__, "followsortable.store")
        self.assertIs(store.Store, Store)


class LongSeries(unittest.TestCase):
    def follow(self, chance, count, fds, calls, cells):
        """A series of calls against the plain store; how often each call told what."""
        made, plain = Store(count, fds), Plain(fds)
        seen = {}
        for call in range(calls):
            told = plain.past[-1]
            row = tuple(chance.choice(cells) for _ in range(count))
            if told and chance.random() < 0.3:
                row = chance.choice(told)
            passed = chance.choice((tuple, list))(row)
            kind = chance.choice(("insert", "insert", "insert", "remove", "find", "back"))
            if kind == "back":
                # Back to the same mark, a little, far, to a mark that there is not.
                many = len(plain.past) - 1
                mark = chance.choice((many, many, many - 1, many - 3, chance.randrange(many + 1), many + 1, -1))
                found, expected = told_by(made.back, mark), plain.back(mark)
            elif kind == "find":
                columns = plainly.some_set(chance, count, chance.choice((0, 0.3, 0.6, 1)))
                wanted = tuple(row[at] for at in columns)
                found = made.find(columns, chance.choice((tuple, list))(wanted))
                expected = sorted(one for one in told if tuple(one[at] for at in columns) == wanted)
            else:
                found, expected = told_by(getattr(made, kind), passed), getattr(plain, kind)(row)
            self.assertEqual((found, type(found)), (expected, type(expected)))
            self.assertEqual((made.rows(), made.mark()), (sorted(plain.past[-1]), len(plain.past) - 1))
            self.assertEqual([type(one) for one in made.rows()], [tuple] * len(plain.past[-1]))
            told = kind + (found[0] if isinstance(found, tuple) else str(found) if isinstance(found, bool) else "")
            seen[told] = seen.get(told, 0) + 1
        return seen

    def test_many_series(self):
        chance = random.Random(131)
        seen = {}
        for turn in range(60):
            count = chance.randrange(1, 5)
            fds = plainly.some_fds(chance, count, chance.randrange(5), 0.4)
            cells = chance.choice(((0, 1), (-1, 0, BIG, 3), range(6)))
            for told, many in self.follow(chance, count, fds, 120, cells).items():
                seen[told] = seen.get(told, 0) + many
        self.assertEqual(sorted(seen), [
            "back", "backNoMark", "find", "insertBroken", "insertFalse", "insertTrue", "removeFalse", "removeTrue",
        ])
        self.assertGreater(min(seen.values()), 100)

    def test_500_calls(self):
        chance = random.Random(132)
        start = time.process_time()
        for many in (0, 5, 40):
            self.follow(chance, 10, plainly.some_fds(chance, 10, many, 0.3), 500, range(8))
        made = Store(10, [Fd([at % 10], range(10)) for at in range(40)])
        for at in range(498):
            self.assertIs(made.insert([at] * 10), True)
        self.assertEqual(told_by(made.insert, [499] * 9 + [7]), ("Broken", 9))
        made.back(0)
        self.assertEqual(made.rows(), [])
        self.assertLess(time.process_time() - start, 30)


if __name__ == "__main__":
    unittest.main()
