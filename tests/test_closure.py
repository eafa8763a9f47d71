"""Closures: points 1 to 5, 11 and 13, and the heading closure.py."""
import copy
import itertools
import random
import unittest

import plainly
from followsortable import closure
from followsortable.closure import closed, follows_fd
from followsortable.dependency import Fd
from followsortable.judge import takes

CHAIN = [Fd([0], [1]), Fd([1], [2]), Fd([2, 3], [4]), Fd([4], [0])]


class Closed(unittest.TestCase):
    def test_by_hand(self):
        self.assertEqual(closed(CHAIN, (0,)), (0, 1, 2))
        self.assertEqual(closed(CHAIN, (3,)), (3,))
        self.assertEqual(closed(CHAIN, (1, 3)), (0, 1, 2, 3, 4))
        self.assertEqual(closed(CHAIN, ()), ())
        self.assertEqual(closed([], (1, 4)), (1, 4))
        self.assertEqual(closed([Fd([], [3]), Fd([3], [5])], ()), (3, 5))
        self.assertEqual(closed([Fd([], []), Fd([1], [])], (0,)), (0,))

    def test_the_least_closed_set(self):
        chance = random.Random(11)
        for count in range(1, 7):
            for turn in range(25):
                fds = plainly.some_fds(chance, count, turn % 7, chance.choice((0.2, 0.4, 0.6)))
                for columns in plainly.subsets(range(count)):
                    found = closed(fds, columns)
                    self.assertEqual(found, plainly.least_closed(count, fds, columns))
                    self.assertEqual(closed(fds, found), found)

    def test_ten_columns(self):
        chance = random.Random(12)
        for many in (0, 1, 5, 12, 40):
            fds = plainly.some_fds(chance, 10, many, 0.3)
            for columns in chance.sample(plainly.subsets(range(10)), 6):
                self.assertEqual(closed(fds, columns), plainly.least_closed(10, fds, columns))

    def test_dependencies_in_another_order_and_twice(self):
        chance = random.Random(13)
        for columns in plainly.subsets(range(5)):
            found = closed(CHAIN, columns)
            for order in itertools.permutations(CHAIN):
                self.assertEqual(closed(order, columns), found)
            self.assertEqual(closed(CHAIN + CHAIN[::-1], columns), found)
        longer = [Fd([at], [at + 1]) for at in range(9)]
        chance.shuffle(longer)
        self.assertEqual(closed(longer, (0,)), tuple(range(10)))
        self.assertEqual(closed(longer[::-1], (4,)), (4, 5, 6, 7, 8, 9))

    def test_a_tuple_of_columns(self):
        self.assertIs(type(closed(CHAIN, (0,))), tuple)
        self.assertEqual(closed(tuple(CHAIN), (0,)), (0, 1, 2))


class FollowsFd(unittest.TestCase):
    def look_at(self, count, fds, target):
        before = copy.deepcopy((plainly.all_fields(fds), plainly.fields(target)))
        answer = follows_fd(count, fds, target)
        self.assertEqual((plainly.all_fields(fds), plainly.fields(target)), before)
        self.assertEqual(follows_fd(count, tuple(fds), target), answer)
        self.assertIs(type(answer), tuple)
        verdict, paper = answer
        self.assertTrue(plainly.is_tuples(paper))
        follows = set(target.right) <= set(plainly.least_closed(count, fds, target.left))
        self.assertIs(verdict, follows)
        word, rows = paper
        if verdict:
            self.assertEqual(word, "derived")
            told = plainly.derived(count, fds, rows)
            self.assertIsNotNone(told)
            self.assertEqual(told[-1], plainly.fields(target))
        else:
            self.assertEqual(word, "table")
            self.assertEqual({len(row) for row in rows}, {count})
            self.assertTrue(all(plainly.keeps(count, rows, fd) for fd in fds))
            self.assertFalse(plainly.keeps(count, rows, target))
        self.assertIs(takes(count, fds, target, verdict, paper), True)
        self.assertIs(takes(count, fds, target, not verdict, paper), False)
        return verdict

    def test_by_hand(self):
        self.assertIs(self.look_at(5, CHAIN, Fd([0], [2])), True)
        self.assertIs(self.look_at(5, CHAIN, Fd([0], [0, 1, 2])), True)
        self.assertIs(self.look_at(5, CHAIN, Fd([1, 3], [0])), True)
        self.assertIs(self.look_at(5, CHAIN, Fd([2], [1])), False)
        self.assertIs(self.look_at(5, CHAIN, Fd([2, 4], [3])), False)

    def test_no_told_dependencies(self):
        for left in plainly.subsets(range(3)):
            for right in plainly.subsets(range(3)):
                self.assertIs(self.look_at(3, [], Fd(left, right)), set(right) <= set(left))
        self.assertIs(self.look_at(1, [], Fd([], [])), True)
        self.assertIs(self.look_at(1, [], Fd([], [0])), False)

    def test_a_right_side_within_the_left_one(self):
        for right in plainly.subsets((0, 2, 4)):
            self.assertIs(self.look_at(5, CHAIN, Fd((0, 2, 4), right)), True)

    def test_empty_sides(self):
        fds = [Fd([], [1]), Fd([1], [2]), Fd([3], []), Fd([], [])]
        self.assertIs(self.look_at(4, fds, Fd([], [2])), True)
        self.assertIs(self.look_at(4, fds, Fd([], [3])), False)
        self.assertIs(self.look_at(4, fds, Fd([3], [])), True)
        self.assertIs(self.look_at(4, fds, Fd([], [])), True)
        self.assertIs(self.look_at(4, fds, Fd([3], [1, 2])), True)
        self.assertIs(self.look_at(4, fds, Fd([3], [0])), False)

    def test_a_told_dependency_itself(self):
        for fd in CHAIN:
            self.assertIs(self.look_at(5, CHAIN + CHAIN, fd), True)

    def test_all_targets(self):
        chance = random.Random(14)
        verdicts = set()
        for count in (1, 2, 3, 4):
            for turn in range(12):
                fds = plainly.some_fds(chance, count, turn % 6)
                sides = plainly.subsets(range(count))
                pairs = chance.sample(list(itertools.product(sides, repeat=2)), min(64, len(sides) ** 2))
                for left, right in pairs:
                    verdicts.add((count, self.look_at(count, fds, Fd(left, right))))
        self.assertEqual(len(verdicts), 8)

    def test_ten_columns(self):
        chance = random.Random(15)
        verdicts = set()
        for many in (1, 5, 15, 40):
            fds = plainly.some_fds(chance, 10, many, 0.3)
            for turn in range(10):
                target = Fd(plainly.some_set(chance, 10, 0.4), plainly.some_set(chance, 10, 0.3))
                verdicts.add(self.look_at(10, fds, target))
        chain = [Fd([at], [at + 1]) for at in range(9)]
        self.assertIs(self.look_at(10, chain[::-1], Fd([0], [9])), True)
        self.assertIs(self.look_at(10, chain, Fd([9], [0])), False)
        self.assertEqual(verdicts, {True, False})

    def test_defined_here(self):
        for made in (closed, follows_fd):
            self.assertEqual(made.__module__, "followsortable.closure")
            self.assertIs(getattr(closure, made.__name__), made)


if __name__ == "__main__":
    unittest.main()
