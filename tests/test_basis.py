"""The basis and what follows with many-valued dependencies: points 1 to 5, 12, 14 and 15, and the heading basis.py."""
import itertools
import random
import unittest

import plainly
from followsortable import basis as module
from followsortable.basis import basis, follows_mvd
from followsortable.chase import follows
from followsortable.dependency import Fd, Mvd
from followsortable.judge import takes
from followsortable.table import Table, keeps

MIXED = [Mvd([0], [1, 2]), Fd([3], [1]), Mvd([4], [2])]


def small_tables(count):
    """Every table with the cells 0 and 1."""
    rows = list(itertools.product((0, 1), repeat=count))
    return [
        Table(tuple(range(count)), chosen)
        for size in range(len(rows) + 1) for chosen in itertools.combinations(rows, size)
    ]


class Basis(unittest.TestCase):
    def look_at(self, count, dependencies, columns, follows_here):
        """Look at a basis with a function that tells whether a dependency follows."""
        before = plainly.all_fields(dependencies)
        blocks = basis(count, dependencies, columns)
        self.assertEqual(plainly.all_fields(dependencies), before)
        self.assertEqual(basis(count, tuple(dependencies), columns), blocks)
        self.assertIs(type(blocks), list)
        self.assertEqual(blocks, sorted(blocks))
        self.assertTrue(all(type(block) is tuple and block == tuple(sorted(block)) and block for block in blocks))
        outside = [column for column in range(count) if column not in columns]
        self.assertEqual(sorted(column for block in blocks for column in block), outside)
        for right in plainly.subsets(range(count)):
            free = set(right) - set(columns)
            union = all(set(block) <= free or not set(block) & free for block in blocks)
            self.assertIs(follows_here(Mvd(columns, right)), union)

    def test_by_hand(self):
        self.assertEqual(basis(4, [Mvd([0], [1])], (0,)), [(1,), (2, 3)])
        self.assertEqual(basis(4, [Mvd([0], [1])], (2,)), [(0, 1, 3)])
        self.assertEqual(basis(4, [Mvd([0], [1])], (0, 2)), [(1,), (3,)])
        self.assertEqual(basis(4, [Fd([0], [1, 2])], (0,)), [(1,), (2,), (3,)])
        self.assertEqual(basis(4, [Mvd([0], [1]), Mvd([1], [2])], (0,)), [(1,), (2,), (3,)])
        self.assertEqual(basis(3, [], ()), [(0, 1, 2)])
        self.assertEqual(basis(3, [], (1,)), [(0, 2)])
        self.assertEqual(basis(3, [Mvd([], [0])], ()), [(0,), (1, 2)])
        self.assertEqual(basis(3, MIXED[:0], (0, 1, 2)), [])
        self.assertEqual(basis(1, [], ()), [(0,)])
        self.assertEqual(basis(5, MIXED, (0, 3)), [(1,), (2,), (4,)])

    def test_a_left_side_in_a_block_divides_nothing(self):
        self.assertEqual(basis(4, [Mvd([1], [2])], (0,)), [(1, 2, 3)])
        self.assertEqual(basis(4, [Fd([1], [2])], (0,)), [(1, 2, 3)])

    def test_against_all_small_tables(self):
        chance = random.Random(21)
        tables = {count: small_tables(count) for count in (1, 2, 3)}
        for count in (1, 2, 3):
            for turn in range(12):
                told = [plainly.some_pair(chance, count) for _ in range(turn % 4)]
                keeping = [table for table in tables[count] if all(keeps(table, one) for one in told)]
                for columns in plainly.subsets(range(count)):
                    self.look_at(count, told, columns, lambda one: all(keeps(table, one) for table in keeping))

    def test_against_the_chase(self):
        chance = random.Random(22)
        for turn in range(40):
            count = chance.choice((3, 4, 4, 5))
            told = [plainly.some_pair(chance, count) for _ in range(turn % 7)]
            for columns in chance.sample(plainly.subsets(range(count)), 3):
                self.look_at(count, told, columns, lambda one: follows(count, told, one)[0])

    def test_ten_columns(self):
        chance = random.Random(23)
        for many in (0, 3, 8, 40):
            told = [plainly.some_pair(chance, 10, 0.3) for _ in range(many)]
            columns = plainly.some_set(chance, 10, 0.3)
            self.look_at(10, told, columns, lambda one: follows_mvd(10, told, one)[0])

    def test_a_new_list_each_time(self):
        first = basis(4, MIXED[:1], (0,))
        first.append("more")
        self.assertEqual(basis(4, MIXED[:1], (0,)), [(1, 2), (3,)])


class FollowsMvd(unittest.TestCase):
    def look_at(self, count, told, target):
        before = (plainly.all_fields(told), plainly.fields(target))
        answer = follows_mvd(count, told, target)
        self.assertEqual((plainly.all_fields(told), plainly.fields(target)), before)
        self.assertEqual(follows_mvd(count, tuple(told), target), answer)
        verdict, paper = answer
        self.assertIs(type(answer), tuple)
        self.assertIs(type(verdict), bool)
        self.assertTrue(plainly.is_tuples(paper))
        word, rows = paper
        if verdict:
            self.assertEqual(word, "derived")
            found = plainly.derived(count, told, rows)
            self.assertIsNotNone(found)
            self.assertEqual(found[-1], plainly.fields(target))
            self.words |= {row[0] for row in rows}
        else:
            self.assertEqual(word, "table")
            self.assertTrue(plainly.shows_not(count, told, target, rows))
        self.assertIs(takes(count, told, target, verdict, paper), True)
        self.assertIs(takes(count, told, target, not verdict, paper), False)
        if count <= 5:
            self.assertIs(follows(count, told, target)[0], verdict)
        self.verdicts.add((type(target).__name__, verdict))
        return verdict

    def setUp(self):
        self.words = set()
        self.verdicts = set()

    def test_the_many_valued_one_that_a_functional_one_is(self):
        self.assertIs(self.look_at(4, [Fd([0], [1, 2])], Mvd([0], [1, 2])), True)
        self.assertIs(self.look_at(4, [Fd([0], [1, 2])], Mvd([0], [1])), True)
        self.assertIs(self.look_at(4, [Fd([0], [1, 2])], Mvd([0], [2, 3])), True)
        self.assertIs(self.look_at(4, [Mvd([0], [1])], Fd([0], [1])), False)

    def test_the_functional_one_of_a_many_valued_and_a_functional_one(self):
        told = [Mvd([0], [1, 2]), Fd([3], [1])]
        self.assertIs(self.look_at(5, told, Fd([0], [1])), True)
        self.assertIs(self.look_at(5, told, Fd([0], [2])), False)
        self.assertIs(self.look_at(5, told[:1], Fd([0], [1])), False)
        self.assertIs(self.look_at(5, told[1:], Fd([0], [1])), False)
        self.assertIs(self.look_at(5, [Mvd([0], [1, 3]), Fd([3], [1])], Fd([0], [1])), False)
        self.assertIn("meets", self.words)

    def test_each_rule_alone(self):
        self.assertIs(self.look_at(4, [Mvd([0], [1])], Mvd([0], [2, 3])), True)
        self.assertIs(self.look_at(4, [Mvd([0], [1])], Mvd([0, 2], [1, 2])), True)
        self.assertIs(self.look_at(4, [Mvd([0], [1]), Mvd([1], [2])], Mvd([0], [2])), True)
        self.assertIs(self.look_at(5, [Mvd([0], [1, 2]), Mvd([0], [2, 3])], Mvd([0], [2])), True)
        self.assertIs(self.look_at(5, [Mvd([0], [1, 2]), Mvd([0], [2, 3])], Mvd([0], [1, 2, 3])), True)
        self.assertIs(self.look_at(5, [Mvd([0], [1, 2]), Mvd([0], [2, 3])], Mvd([0], [1, 4])), True)
        self.assertIs(self.look_at(4, [Fd([0], [1]), Fd([1], [2])], Fd([0, 3], [2, 3])), True)

    def test_targets_that_follow_from_nothing(self):
        for count in (1, 2, 3):
            for left, right in itertools.product(plainly.subsets(range(count)), repeat=2):
                within = set(right) <= set(left)
                around = set(left) | set(right) == set(range(count))
                self.assertIs(self.look_at(count, [], Fd(left, right)), within)
                self.assertIs(self.look_at(count, [], Mvd(left, right)), within or around)

    def test_empty_sides(self):
        told = [Mvd([], [0]), Fd([], [2]), Mvd([1], []), Fd([1], [])]
        self.assertIs(self.look_at(4, told, Mvd([], [0])), True)
        self.assertIs(self.look_at(4, told, Mvd([], [1, 3])), True)
        self.assertIs(self.look_at(4, told, Mvd([], [1])), False)
        self.assertIs(self.look_at(4, told, Fd([], [2])), True)
        self.assertIs(self.look_at(4, told, Fd([], [0])), False)
        self.assertIs(self.look_at(4, told, Mvd([3], [])), True)

    def test_all_targets_of_few_columns(self):
        chance = random.Random(24)
        for turn in range(30):
            count = chance.choice((2, 3, 3, 4))
            told = [plainly.some_pair(chance, count) for _ in range(turn % 6)]
            for left, right in itertools.product(plainly.subsets(range(count)), repeat=2):
                if chance.random() < 8 / 4 ** count * 4:
                    self.look_at(count, told, Fd(left, right))
                    self.look_at(count, told, Mvd(left, right))
        self.assertEqual(len(self.verdicts), 4)
        all_nine = {"told", "within", "with", "through", "also", "other", "wide", "beyond", "meets"}
        self.assertEqual(self.words, all_nine)

    def test_more_columns(self):
        chance = random.Random(25)
        for turn in range(200):
            count = chance.choice((5, 6, 8, 10, 10))
            told = [plainly.some_pair(chance, count, 0.3) for _ in range(chance.choice((1, 3, 6, 12, 40)))]
            self.look_at(count, told, plainly.some_pair(chance, count))
        self.assertEqual(len(self.verdicts), 4)

    def test_against_all_small_tables(self):
        chance = random.Random(26)
        tables = {count: small_tables(count) for count in (2, 3)}
        for turn in range(20):
            count = chance.choice((2, 3))
            told = [plainly.some_pair(chance, count) for _ in range(turn % 4)]
            keeping = [table for table in tables[count] if all(keeps(table, one) for one in told)]
            for left, right in itertools.product(plainly.subsets(range(count)), repeat=2):
                for target in (Fd(left, right), Mvd(left, right)):
                    kept = all(keeps(table, target) for table in keeping)
                    self.assertIs(follows_mvd(count, told, target)[0], kept)

    def test_defined_here(self):
        for made in (basis, follows_mvd):
            self.assertEqual(made.__module__, "followsortable.basis")
            self.assertIs(getattr(module, made.__name__), made)


if __name__ == "__main__":
    unittest.main()
