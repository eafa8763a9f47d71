"""Splits: points 1 to 5 and 23 to 26, and the heading splits.py."""
import random
import unittest

import plainly
from followsortable import splits
from followsortable.basis import basis, follows_mvd
from followsortable.chase import follows
from followsortable.dependency import Fd, Jd, Mvd
from followsortable.judge import takes
from followsortable.splits import boyce_codd, broken, fourth, kept, lossless, third

STREET = [Fd([0, 1], [2]), Fd([2], [1])]


def some_lists(seed, many=20):
    """Pairs of a number of columns and a list of functional dependencies."""
    chance = random.Random(seed)
    for count in range(1, 6):
        for turn in range(many):
            yield count, plainly.some_fds(chance, count, turn % 7, chance.choice((0.2, 0.3, 0.5)))


def some_split(chance, count, many):
    return list(plainly.some_jd(chance, count, many).parts)


class Lossless(unittest.TestCase):
    def look_at(self, count, told, parts):
        before = (plainly.all_fields(told), list(parts))
        answer = lossless(count, told, parts)
        self.assertEqual((plainly.all_fields(told), list(parts)), before)
        self.assertEqual(lossless(count, tuple(told), tuple(parts)), answer)
        self.assertEqual(answer, follows(count, told, Jd(parts)))
        self.assertIs(plainly.takes(count, told, Jd(parts), *answer), True)
        self.assertIs(takes(count, told, Jd(parts), *answer), True)
        return answer[0]

    def test_by_hand(self):
        self.assertIs(self.look_at(3, [Fd([0], [1])], [(0, 1), (0, 2)]), True)
        self.assertIs(self.look_at(3, [Fd([0], [1])], [(0, 1), (1, 2)]), False)
        self.assertIs(self.look_at(3, [], [(0, 1), (0, 2)]), False)
        self.assertIs(self.look_at(3, [], [(0, 1, 2)]), True)
        self.assertIs(self.look_at(3, [Mvd([0], [1])], [(0, 1), (0, 2)]), True)
        self.assertIs(self.look_at(3, [Mvd([0], [1])], [(0, 1), (1, 2)]), False)
        self.assertIs(self.look_at(4, [Jd([[0, 1], [1, 2], [2, 3]])], [(0, 1, 2), (2, 3)]), True)
        self.assertIs(self.look_at(4, [Jd([[0, 1], [1, 2], [2, 3]])], [(0, 1), (1, 2, 3)]), True)
        self.assertIs(self.look_at(4, [Jd([[0, 1], [1, 2], [0, 2, 3]])], [(0, 1), (1, 2, 3)]), False)

    def test_all_kinds(self):
        chance = random.Random(71)
        verdicts = []
        for turn in range(150):
            count = chance.choice((2, 3, 4, 5))
            told = [plainly.some_pair(chance, count) for _ in range(chance.randrange(6))]
            if turn % 3 == 0:
                told.append(plainly.some_jd(chance, count, chance.choice((2, 3))))
            verdicts.append(self.look_at(count, told, some_split(chance, count, chance.choice((2, 3, 4)))))
        self.assertGreater(min(verdicts.count(True), verdicts.count(False)), 20)

    def test_functional_ones_by_a_tableau(self):
        chance = random.Random(72)
        for count, fds in some_lists(73, 12):
            for turn in range(3):
                parts = some_split(chance, count, chance.choice((1, 2, 3, 4)))
                self.assertIs(lossless(count, fds, parts)[0], plainly.loses_nothing(count, fds, parts))


class Kept(unittest.TestCase):
    def look_at(self, count, fds, parts):
        before = (plainly.all_fields(fds), list(parts))
        answer = kept(count, fds, parts)
        self.assertEqual((plainly.all_fields(fds), list(parts)), before)
        again = kept(count, tuple(fds), tuple(parts))
        self.assertEqual((again[0], plainly.all_fields(again[1])), (answer[0], plainly.all_fields(answer[1])))
        of_all = plainly.of_parts(plainly.closures(count, fds), parts)
        lost = [fd for fd in fds if not set(fd.right) <= set(plainly.reach(of_all, fd.left))]
        self.assertIs(type(answer), tuple)
        self.assertIs(type(answer[1]), list)
        self.assertEqual(plainly.all_fields(answer[1]), plainly.all_fields(lost))
        self.assertIs(answer[0], not lost)
        return answer

    def test_by_hand(self):
        self.assertEqual(self.look_at(3, STREET, [(0, 2), (1, 2)]), (False, [Fd([0, 1], [2])]))
        self.assertEqual(self.look_at(3, STREET, [(0, 1, 2)]), (True, []))
        chain = [Fd([0], [1]), Fd([1], [2]), Fd([2], [0])]
        # 2 > 0 follows by way of 1, though no part has both columns.
        self.assertEqual(self.look_at(3, chain, [(0, 1), (1, 2)]), (True, []))
        self.assertEqual(self.look_at(3, chain[:2], [(0, 1), (0, 2)]), (False, chain[1:2]))
        self.assertEqual(self.look_at(3, [], [(0,), (1,), (2,)]), (True, []))
        self.assertEqual(self.look_at(2, [Fd([], [0]), Fd([0], [1])], [(0,), (1,)]), (True, []))
        self.assertEqual(self.look_at(2, [Fd([0], [0]), Fd([0], [])], [(0,), (1,)]), (True, []))

    def test_the_lost_ones_in_order(self):
        fds = [Fd([1], [0]), Fd([0], [2]), Fd([1], [2]), Fd([1], [0]), Fd([2], [1])]
        self.assertEqual(self.look_at(3, fds, [(0,), (1, 2)])[1], [Fd([1], [0]), Fd([0], [2]), Fd([1], [0])])

    def test_many(self):
        chance = random.Random(74)
        verdicts = []
        for count, fds in some_lists(75):
            for turn in range(6):
                verdicts.append(self.look_at(count, fds, some_split(chance, count, chance.choice((1, 2, 3, 4))))[0])
        self.assertGreater(min(verdicts.count(True), verdicts.count(False)), 50)

    def test_ten_columns(self):
        chance = random.Random(76)
        for many in (3, 10, 40):
            fds = plainly.some_fds(chance, 10, many, 0.25)
            self.look_at(10, fds, some_split(chance, 10, 6))

    def test_a_new_list_each_time(self):
        kept(3, STREET, [(0, 2), (1, 2)])[1].clear()
        self.assertEqual(len(kept(3, STREET, [(0, 2), (1, 2)])[1]), 1)


class BrokenOnes(unittest.TestCase):
    def look_at(self, count, fds, columns, told=None):
        before = plainly.all_fields(fds)
        found = broken(count, fds, columns)
        self.assertEqual(plainly.all_fields(fds), before)
        self.assertEqual(broken(count, tuple(fds), columns), found)
        told = told or plainly.closures(count, fds)
        self.assertIs(found is None, plainly.in_boyce_codd_form(told, columns))
        if found is not None:
            self.assertIs(type(found), Fd)
            self.assertLessEqual(set(found.left), set(columns))
            right = set(told[found.left]) & set(columns) - set(found.left)
            self.assertEqual(set(found.right), right)
            self.assertTrue(right)
            self.assertFalse(set(columns) <= set(told[found.left]))
        return found

    def test_by_hand(self):
        self.assertEqual(self.look_at(3, STREET, (0, 1, 2)), Fd([2], [1]))
        self.assertIsNone(self.look_at(3, STREET, (1, 2)))
        self.assertIsNone(self.look_at(3, STREET, (0, 2)))
        self.assertIsNone(self.look_at(3, [], (0, 1, 2)))
        self.assertIsNone(self.look_at(3, STREET, ()))
        self.assertIsNone(self.look_at(3, [Fd([0], [0, 1, 2])], (0, 1, 2)))
        # The columns 0 and 2 alone tell nothing of the way through 1.
        self.assertEqual(self.look_at(4, [Fd([0], [1]), Fd([1], [2])], (0, 2, 3)), Fd([0], [2]))
        self.assertEqual(self.look_at(2, [Fd([], [0])], (0, 1)), Fd([], [0]))
        self.assertIsNone(self.look_at(2, [Fd([], [0])], (0,)))

    def test_many(self):
        for count, fds in some_lists(77):
            told = plainly.closures(count, fds)
            for columns in plainly.subsets(range(count)):
                self.look_at(count, fds, columns, told)

    def test_ten_columns(self):
        chance = random.Random(78)
        for many in (0, 3, 10, 40):
            fds = plainly.some_fds(chance, 10, many, 0.3)
            self.look_at(10, fds, plainly.some_set(chance, 10, 0.6))


class Forms(unittest.TestCase):
    def split_of(self, made, count, told):
        """The split that a function makes, looked at as far as all three have it in common."""
        before = plainly.all_fields(told)
        parts = made(count, told)
        self.assertEqual(plainly.all_fields(told), before)
        self.assertEqual(made(count, tuple(told)), parts)
        self.assertIs(type(parts), list)
        self.assertTrue(plainly.is_split(count, parts))
        if all(isinstance(one, Fd) for one in told):
            self.assertTrue(plainly.loses_nothing(count, told, parts))
        if count <= 5:
            self.assertIs(lossless(count, told, parts)[0], True)
        parts.append("more")
        self.assertEqual(made(count, told), parts[:-1])
        return parts[:-1]

    def boyce_codd(self, count, fds, told=None):
        parts = self.split_of(boyce_codd, count, fds)
        told = told or plainly.closures(count, fds)
        self.assertTrue(all(plainly.in_boyce_codd_form(told, part) for part in parts))
        return parts

    def third(self, count, fds, told=None):
        parts = self.split_of(third, count, fds)
        told = told or plainly.closures(count, fds)
        self.assertTrue(all(plainly.in_third_form(told, part) for part in parts))
        self.assertTrue(plainly.follow_all(plainly.of_parts(told, parts), fds))
        self.assertEqual(kept(count, fds, parts), (True, []))
        return parts

    def fourth(self, count, told):
        parts = self.split_of(fourth, count, told)
        for part in parts:
            for left in plainly.subsets(part):
                inside = [block for block in basis(count, told, left) if set(block) & set(part)]
                self.assertTrue(len(inside) <= 1 or follows_mvd(count, told, Fd(left, part))[0])
        return parts

    def test_by_hand(self):
        self.assertEqual(self.boyce_codd(3, STREET), [(0, 2), (1, 2)])
        self.assertEqual(self.third(3, STREET), [(0, 1, 2)])
        self.assertEqual(self.fourth(3, STREET), [(0, 2), (1, 2)])
        self.assertEqual(self.fourth(3, [Mvd([0], [1])]), [(0, 1), (0, 2)])
        self.assertEqual(self.boyce_codd(3, [Fd([0], [1]), Fd([1], [2])]), [(0, 1), (1, 2)])
        self.assertEqual(self.third(3, [Fd([0], [1]), Fd([1], [2])]), [(0, 1), (1, 2)])
        self.assertEqual(self.third(3, [Fd([0], [1])]), [(0, 1), (0, 2)])

    def test_no_dependencies(self):
        for count in range(1, 6):
            everything = tuple(range(count))
            for made in (self.boyce_codd, self.third, self.fourth):
                self.assertEqual(made(count, []), [everything])
                self.assertEqual(made(count, [Fd([], []), Fd(everything, [0])]), [everything])

    def test_columns_that_no_dependency_names(self):
        for count in (3, 4, 5):
            fds = [Fd([1], [2])]
            rest = tuple(column for column in range(count) if column != 2)
            for made in (self.boyce_codd, self.third, self.fourth):
                self.assertEqual(made(count, fds), sorted([(1, 2), rest]))
        self.assertEqual(self.fourth(4, [Mvd([], [1])]), [(0, 2, 3), (1,)])

    def test_empty_left_sides(self):
        for made in (self.boyce_codd, self.third, self.fourth):
            self.assertEqual(made(1, [Fd([], [0])]), [(0,)])
            self.assertEqual(made(2, [Fd([], [0])]), [(0,), (1,)])
            self.assertEqual(made(3, [Fd([], [0, 1, 2])]), [(0, 1, 2)])
            made(4, [Fd([], [0]), Fd([0], [1]), Fd([1, 2], [3])])
        self.assertEqual(self.fourth(2, [Mvd([], [0])]), [(0,), (1,)])

    def test_a_part_that_falls_twice(self):
        self.assertEqual(self.boyce_codd(4, [Fd([0], [1]), Fd([1], [2]), Fd([2], [3])]), [(0, 1), (1, 2), (2, 3)])
        self.assertEqual(self.fourth(4, [Mvd([], [0]), Mvd([], [1]), Mvd([], [2])]), [(0,), (1,), (2,), (3,)])

    def test_third_needs_a_key_of_its_own(self):
        self.assertEqual(self.third(4, [Fd([0], [1]), Fd([2], [3])]), [(0, 1), (0, 2), (2, 3)])
        self.assertEqual(self.third(3, [Fd([0], [1]), Fd([1], [0])]), [(0, 1), (0, 2)])

    def test_many(self):
        for count, fds in some_lists(79):
            told = plainly.closures(count, fds)
            self.boyce_codd(count, fds, told)
            self.third(count, fds, told)
            self.fourth(count, fds)

    def test_ten_columns(self):
        chance = random.Random(80)
        for many, share in ((2, 0.2), (6, 0.2), (12, 0.3), (40, 0.3)):
            fds = plainly.some_fds(chance, 8, many, share)
            told = plainly.closures(8, fds)
            self.boyce_codd(8, fds, told)
            self.third(8, fds, told)
        for many in (6, 15, 40):
            fds = plainly.some_fds(chance, 10, many, 0.25)
            self.assertTrue(all(broken(10, fds, part) is None for part in self.split_of(boyce_codd, 10, fds)))
            self.assertEqual(kept(10, fds, self.split_of(third, 10, fds)), (True, []))

    def test_many_valued_ones(self):
        chance = random.Random(81)
        many = []
        for turn in range(150):
            count = chance.choice((2, 3, 4, 4, 5, 5))
            told = [plainly.some_pair(chance, count, 0.3) for _ in range(chance.randrange(7))]
            many.append(len(self.fourth(count, told)))
        self.assertGreater(max(many), 2)

    def test_forty_dependencies(self):
        chance = random.Random(82)
        for turn in range(5):
            told = [plainly.some_pair(chance, 5, 0.5) for _ in range(40)]
            told = [Mvd(one.left + (4,), one.right) for one in told if len(one.left) > 1]
            self.fourth(5, told)

    def test_defined_here(self):
        for made in (lossless, kept, broken, boyce_codd, third, fourth):
            self.assertEqual(made.__module__, "followsortable.splits")
            self.assertIs(getattr(splits, made.__name__), made)


if __name__ == "__main__":
    unittest.main()
