"""Sets of columns: points 3 and 6, and the heading sets.py."""
import random
import unittest

from followsortable.sets import all_sets, as_set, is_within, less, met, united, whole


def lists_of_columns():
    """Lists of columns from 0 to 9, in any order and with repeats, each kind of length."""
    chance = random.Random(6)
    lists = [[], [0], [9], [3, 3, 3], list(range(10)), list(range(9, -1, -1)), [1, 0, 1, 9, 0]]
    for length in range(1, 14):
        for top in (1, 3, 10, 10):
            lists.append([chance.randrange(top) for place in range(length)])
    return lists


class Sets(unittest.TestCase):
    def setUp(self):
        self.lists = lists_of_columns()
        self.sets = [as_set(columns) for columns in self.lists]

    def assert_set(self, found, holds):
        """found is a tuple, ascending, of just the columns of which holds tells True."""
        self.assertIs(type(found), tuple)
        self.assertEqual(list(found), [column for column in range(10) if holds(column)])

    def test_as_set(self):
        for columns in self.lists:
            self.assert_set(as_set(columns), lambda column: column in columns)
            self.assert_set(as_set(tuple(columns)), lambda column: column in columns)

    def test_as_set_by_hand(self):
        self.assertEqual(as_set([]), ())
        self.assertEqual(as_set([4]), (4,))
        self.assertEqual(as_set([9, 0, 9, 3, 0]), (0, 3, 9))

    def test_two_sets(self):
        for a in self.sets:
            for b in self.sets:
                self.assert_set(united(a, b), lambda column: column in a or column in b)
                self.assert_set(met(a, b), lambda column: column in a and column in b)
                self.assert_set(less(a, b), lambda column: column in a and column not in b)
                self.assertIs(is_within(a, b), all(column in b for column in a))

    def test_two_lists(self):
        for a in self.lists[::3]:
            for b in self.lists[1::4]:
                self.assert_set(united(a, b), lambda column: column in a or column in b)
                self.assert_set(met(a, b), lambda column: column in a and column in b)
                self.assert_set(less(a, b), lambda column: column in a and column not in b)
                self.assertIs(is_within(a, b), all(column in b for column in a))

    def test_two_sets_by_hand(self):
        self.assertEqual(united((2, 5), (0, 5, 9)), (0, 2, 5, 9))
        self.assertEqual(met((2, 5), (0, 5, 9)), (5,))
        self.assertEqual(less((2, 5), (0, 5, 9)), (2,))
        self.assertEqual(less((0, 5, 9), (2, 5)), (0, 9))
        self.assertIs(is_within((2, 5), (0, 2, 5)), True)
        self.assertIs(is_within((0, 2, 5), (2, 5)), False)

    def test_the_empty_set(self):
        some = (1, 4)
        self.assertEqual((united((), some), united(some, ()), united((), ())), (some, some, ()))
        self.assertEqual((met((), some), met(some, ()), met((), ())), ((), (), ()))
        self.assertEqual((less((), some), less(some, ()), less((), ())), ((), some, ()))
        self.assertIs(is_within((), some), True)
        self.assertIs(is_within((), ()), True)
        self.assertIs(is_within(some, ()), False)

    def test_a_set_is_within_itself(self):
        for columns in self.sets:
            self.assertIs(is_within(columns, columns), True)

    def test_whole(self):
        for count in range(1, 11):
            self.assert_set(whole(count), lambda column: column < count)
        self.assertEqual(whole(3), (0, 1, 2))

    def test_arguments_stay(self):
        columns = [5, 1, 5, 0]
        as_set(columns)
        all_sets(columns)
        self.assertEqual(columns, [5, 1, 5, 0])


class AllSets(unittest.TestCase):
    def test_by_hand(self):
        self.assertEqual(all_sets(()), [()])
        self.assertEqual(all_sets((7,)), [(), (7,)])
        self.assertEqual(all_sets((0, 2, 9)), [(), (0,), (2,), (9,), (0, 2), (0, 9), (2, 9), (0, 2, 9)])

    def test_each_set_once_and_in_order(self):
        for columns in [as_set(columns) for columns in lists_of_columns()]:
            expected = []
            for chosen in range(2 ** len(columns)):
                expected.append(tuple(c for at, c in enumerate(columns) if chosen >> at & 1))
            expected.sort(key=lambda some: (len(some), some))
            found = all_sets(columns)
            self.assertIs(type(found), list)
            self.assertEqual(found, expected)

    def test_ten_columns(self):
        found = all_sets(whole(10))
        self.assertEqual(len(found), 1024)
        self.assertEqual((found[0], found[1], found[-1]), ((), (0,), whole(10)))

    def test_a_new_list_each_time(self):
        first = all_sets((0, 1))
        first.append("more")
        self.assertEqual(all_sets((0, 1)), [(), (0,), (1,), (0, 1)])


if __name__ == "__main__":
    unittest.main()
