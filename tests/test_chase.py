"""What follows from dependencies of all kinds: points 1 to 5, 10, 16 and 17, and the heading chase.py."""
import itertools
import random
import unittest

import plainly
from followsortable import chase
from followsortable.chase import follows
from followsortable.dependency import Fd, Jd, Mvd
from followsortable.judge import takes
from followsortable.table import Table, keeps

PATH = [Jd([[0, 1], [1, 2], [2, 3]])]


class Follows(unittest.TestCase):
    def setUp(self):
        self.verdicts = set()

    def look_at(self, count, told, target):
        before = (plainly.all_fields(told), plainly.fields(target))
        answer = follows(count, told, target)
        self.assertEqual((plainly.all_fields(told), plainly.fields(target)), before)
        self.assertEqual(follows(count, tuple(told), target), answer)
        verdict, paper = answer
        self.assertIs(type(answer), tuple)
        self.assertIs(type(verdict), bool)
        self.assertTrue(plainly.is_tuples(paper))
        word, content = paper
        self.assertEqual(word, "chased" if verdict else "table")
        if verdict:
            self.assertTrue(plainly.chased(count, told, target, content))
        else:
            self.assertTrue(plainly.shows_not(count, told, target, content))
        self.assertIs(takes(count, told, target, verdict, paper), True)
        self.assertIs(takes(count, told, target, not verdict, paper), False)
        self.verdicts.add((type(target).__name__, verdict))
        return verdict

    def test_by_hand(self):
        self.assertIs(self.look_at(3, [Fd([0], [1]), Fd([1], [2])], Fd([0], [2])), True)
        self.assertIs(self.look_at(3, [Fd([0], [1]), Fd([1], [2])], Fd([2], [0])), False)
        self.assertIs(self.look_at(3, [Fd([0], [1])], Jd([[0, 1], [0, 2]])), True)
        self.assertIs(self.look_at(3, [Fd([0], [1])], Jd([[0, 1], [1, 2]])), False)
        self.assertIs(self.look_at(3, [Mvd([0], [1])], Jd([[0, 1], [0, 2]])), True)
        self.assertIs(self.look_at(3, [Jd([[0, 1], [0, 2]])], Mvd([0], [1])), True)
        self.assertIs(self.look_at(3, [Jd([[0, 1], [0, 2]])], Fd([0], [1])), False)

    def test_join_dependencies_and_many_valued_ones(self):
        for left, right in (([1], [0]), ([2], [3]), ([1], [2, 3]), ([2], [0, 1])):
            self.assertIs(self.look_at(4, PATH, Mvd(left, right)), True)
        self.assertIs(self.look_at(4, PATH, Mvd([0], [1])), False)
        self.assertIs(self.look_at(4, [Mvd([1], [0]), Mvd([2], [3])], PATH[0]), True)
        self.assertIs(self.look_at(4, [Mvd([1], [0])], PATH[0]), False)
        cycle = Jd([[0, 1], [1, 2], [0, 2]])
        for left, right in (([0], [1]), ([1], [2]), ([], [0])):
            self.assertIs(self.look_at(3, [cycle], Mvd(left, right)), False)
        self.assertIs(self.look_at(3, [Mvd([0], [1])], cycle), True)
        self.assertIs(self.look_at(3, [cycle, Fd([0], [1])], Jd([[0, 1], [0, 2]])), True)

    def test_targets_that_follow_from_nothing(self):
        for count in (1, 2, 3):
            for left, right in itertools.product(plainly.subsets(range(count)), repeat=2):
                within = set(right) <= set(left)
                around = set(left) | set(right) == set(range(count))
                self.assertIs(self.look_at(count, [], Fd(left, right)), within)
                self.assertIs(self.look_at(count, [], Mvd(left, right)), within or around)
        self.assertIs(self.look_at(3, [], Jd([[0, 1], [1, 2]])), False)

    def test_the_whole_set_as_a_part(self):
        for count in (1, 2, 4):
            everything = list(range(count))
            for parts in ([everything], [everything, everything], [[], everything], [everything, [0]]):
                self.assertIs(self.look_at(count, [], Jd(parts)), True)
                self.assertIs(self.look_at(count, [Jd(parts)], Jd(parts)), True)
        self.assertIs(self.look_at(3, [Jd([[0, 1, 2]])], Jd([[0, 1], [1, 2]])), False)
        self.assertIs(self.look_at(3, [Jd([[], [0, 1, 2]])], Mvd([], [0])), False)

    def test_a_told_dependency_itself(self):
        told = [Fd([0], [1]), Mvd([1], [2]), Jd([[0, 1], [1, 2], [2, 3]]), Jd([[0, 3], [1, 2]])]
        for target in told:
            self.assertIs(self.look_at(4, [target], target), True)
            self.assertIs(self.look_at(4, told, target), True)

    def test_parts_in_another_order_or_twice(self):
        parts = [[0, 1], [1, 2], [2, 3]]
        for order in itertools.permutations(parts):
            self.assertIs(self.look_at(4, PATH, Jd(order)), True)
            self.assertIs(self.look_at(4, PATH, Jd(list(order) + [order[0]])), True)
            self.assertIs(self.look_at(4, [Jd(order)], PATH[0]), True)
        self.assertIs(self.look_at(4, [Jd(parts[:2] + [[2, 3]])], Jd(parts + [[0, 3]])), True)
        self.assertIs(self.look_at(4, [Jd(parts + [[0, 3]])], Jd(parts)), False)
        self.assertIs(self.look_at(2, [Jd([[0], [0], [1]])], Jd([[1], [0]])), True)

    def test_parts_without_columns(self):
        self.assertIs(self.look_at(2, [Jd([[], [0], [1]])], Mvd([], [0])), True)
        self.assertIs(self.look_at(2, [], Jd([[], [0], [1]])), False)

    def test_empty_sides(self):
        told = [Fd([], [1]), Mvd([], [0]), Fd([2], []), Mvd([2], [])]
        self.assertIs(self.look_at(3, told, Fd([], [1])), True)
        self.assertIs(self.look_at(3, told, Jd([[0], [1], [2]])), True)
        self.assertIs(self.look_at(3, told, Fd([], [0])), False)
        self.assertIs(self.look_at(3, told[1:2], Jd([[0], [1], [2]])), False)

    def some_told(self, chance, count, many, share):
        told = []
        for _ in range(many):
            if chance.random() < 0.6:
                told.append(plainly.some_pair(chance, count, share))
            else:
                told.append(plainly.some_jd(chance, count, chance.choice((1, 2, 2, 3, 3)), share))
        return told

    def some_target(self, chance, count):
        if chance.random() < 0.5:
            return plainly.some_pair(chance, count)
        most = 4 if count == 5 else 6
        return plainly.some_jd(chance, count, chance.randrange(1, most + 1), 0.4)

    def test_all_kinds(self):
        chance = random.Random(31)
        for turn in range(900):
            count = chance.choice((1, 2, 3, 4, 4, 5, 5))
            told = self.some_told(chance, count, chance.choice((0, 1, 2, 3, 5)), chance.choice((0.3, 0.5, 0.7)))
            self.look_at(count, told, self.some_target(chance, count))
        self.assertEqual(len(self.verdicts), 6)

    def test_at_the_bounds(self):
        chance = random.Random(32)
        for turn in range(60):
            count = chance.choice((4, 5))
            told = self.some_told(chance, count, 40, chance.choice((0.6, 0.7, 0.8)))
            told = [one for one in told if not isinstance(one, Fd) or turn % 4 == 0]
            target = plainly.some_jd(chance, count, 6 if count == 4 else 4, 0.35)
            self.look_at(count, told, target)
        self.assertEqual(len(self.verdicts), 2)

    def test_many_rows(self):
        told = [Mvd([], [column]) for column in range(4)]
        self.assertIs(self.look_at(5, told, Jd([[0], [1], [2], [3, 4]])), True)
        told = [Mvd([4], [column]) for column in range(3)]
        self.assertIs(self.look_at(5, told, Jd([[0, 1], [1, 2], [2, 3], [3, 4]])), False)
        self.assertIs(self.look_at(4, [Mvd([], [0]), Mvd([], [1])], Jd([[0, 1], [1, 2], [2, 3]] * 2)), True)
        self.assertIs(self.look_at(4, [Mvd([], [0]), Mvd([], [1])], Jd([[0, 1], [1, 2], [3]] * 2)), False)

    def test_against_tables_of_two_and_three_cells(self):
        chance = random.Random(33)
        rows = list(itertools.product((0, 1), repeat=3)) + [(2, 0, 1), (0, 2, 1), (0, 1, 2)]
        tables = [Table((0, 1, 2), chosen) for size in range(5) for chosen in itertools.combinations(rows, size)]
        for turn in range(25):
            told = self.some_told(chance, 3, turn % 4, 0.5)
            keeping = [table for table in tables if all(keeps(table, one) for one in told)]
            for more in range(6):
                target = self.some_target(chance, 3)
                if follows(3, told, target)[0]:
                    self.assertTrue(all(keeps(table, target) for table in keeping))

    def test_defined_here(self):
        self.assertEqual(follows.__module__, "followsortable.chase")
        self.assertIs(chase.follows, follows)


if __name__ == "__main__":
    unittest.main()
