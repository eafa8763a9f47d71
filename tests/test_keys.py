"""All keys: points 1 to 5 and 22, and the heading keys.py."""
import itertools
import random
import unittest

import plainly
from followsortable import keys as module
from followsortable.dependency import Fd
from followsortable.keys import keys, takes_keys


class Keys(unittest.TestCase):
    def look_at(self, count, fds):
        before = plainly.all_fields(fds)
        answer = keys(count, fds)
        self.assertEqual(plainly.all_fields(fds), before)
        self.assertEqual(keys(count, tuple(fds)), answer)
        self.assertEqual(answer, plainly.all_keys(count, fds))
        self.assertIs(type(answer), tuple)
        self.assertEqual([type(part) for part in answer], [list, list])
        self.assertTrue(all(plainly.is_tuples(tuple(part)) for part in answer))
        self.assertIs(takes_keys(count, fds, answer[0], answer[1]), True)
        return answer

    def test_by_hand(self):
        self.assertEqual(self.look_at(3, [Fd([0], [1])]), ([(0, 2)], [(0, 1), (1, 2)]))
        ring = [Fd([0], [1]), Fd([1], [2]), Fd([2], [0])]
        self.assertEqual(self.look_at(3, ring), ([(0,), (1,), (2,)], [()]))
        self.assertEqual(self.look_at(4, ring), ([(0, 3), (1, 3), (2, 3)], [(0, 1, 2), (3,)]))

    def test_no_dependencies(self):
        for count in range(1, 6):
            everything = tuple(range(count))
            without = [tuple(other for other in everything if other != column) for column in everything]
            self.assertEqual(self.look_at(count, []), ([everything], sorted(without)))

    def test_empty_left_sides(self):
        self.assertEqual(self.look_at(2, [Fd([], [0, 1])]), ([()], []))
        self.assertEqual(self.look_at(1, [Fd([], [0])]), ([()], []))
        self.assertEqual(self.look_at(3, [Fd([], [0])]), ([(1, 2)], [(0, 1), (0, 2)]))
        self.assertEqual(self.look_at(3, [Fd([], [0]), Fd([0], [1, 2])]), ([()], []))
        self.assertEqual(self.look_at(1, [Fd([], [])]), ([(0,)], [()]))

    def test_in_ascending_order_of_tuples(self):
        fds = [Fd([0], [1, 2, 3]), Fd([1, 2], [0]), Fd([1, 3], [0]), Fd([2, 3], [0])]
        self.assertEqual(self.look_at(4, fds), ([(0,), (1, 2), (1, 3), (2, 3)], [(1,), (2,), (3,)]))
        fds = [Fd([0, 1], [2, 3]), Fd([3], [0, 1, 2])]
        self.assertEqual(self.look_at(4, fds), ([(0, 1), (3,)], [(0, 2), (1, 2)]))

    def test_many_lists(self):
        chance = random.Random(61)
        for count in range(1, 7):
            for turn in range(30):
                self.look_at(count, plainly.some_fds(chance, count, turn % 9, chance.choice((0.2, 0.4, 0.6))))

    def test_ten_columns(self):
        chance = random.Random(62)
        for many in (0, 4, 12, 40):
            self.look_at(10, plainly.some_fds(chance, 10, many, 0.3))
        halves = [Fd(left, range(10)) for left in list(itertools.combinations(range(10), 5))[::7]]
        found, others = self.look_at(10, halves)
        self.assertGreaterEqual(len(found), len(halves))
        self.assertGreater(len(others), 50)

    def test_new_lists_each_time(self):
        first, second = keys(2, [Fd([0], [1])])
        first.append("more")
        second.append("more")
        self.assertEqual(keys(2, [Fd([0], [1])]), ([(0,)], [(1,)]))


class TakesKeys(unittest.TestCase):
    def takes(self, count, fds, found, others):
        before = (list(found), list(others))
        taken = takes_keys(count, fds, found, others)
        self.assertIs(type(taken), bool)
        self.assertEqual((list(found), list(others)), before)
        self.assertIs(takes_keys(count, tuple(fds), tuple(found), tuple(others)), taken)
        return taken

    def test_by_hand(self):
        fds = [Fd([0], [1]), Fd([1], [0])]
        self.assertIs(self.takes(3, fds, [(0, 2), (1, 2)], [(0, 1), (2,)]), True)
        self.assertIs(self.takes(3, fds, [(1, 2), (0, 2)], [(0, 1), (2,)]), False)
        self.assertIs(self.takes(3, fds, [(0, 2), (1, 2)], [(2,), (0, 1)]), False)
        self.assertIs(self.takes(3, fds, [(0, 1), (2,)], [(0, 2), (1, 2)]), False)
        self.assertIs(self.takes(3, fds, [(0, 2)], [(0, 1), (2,)]), False)
        self.assertIs(self.takes(3, fds, [(0, 2), (1, 2)], [(0, 1)]), False)
        self.assertIs(self.takes(3, fds, [(0, 2), (1, 2), (1, 2)], [(0, 1), (2,)]), False)
        self.assertIs(self.takes(3, fds, [(0, 1, 2), (0, 2), (1, 2)], [(0, 1), (2,)]), False)
        self.assertIs(self.takes(3, fds, [(0, 2), (1, 2)], [(0,), (0, 1), (2,)]), False)
        self.assertIs(self.takes(3, fds, [], []), False)

    def test_changed_lists(self):
        chance = random.Random(63)
        for turn in range(120):
            count = chance.randrange(1, 6)
            fds = plainly.some_fds(chance, count, chance.randrange(7))
            answer = keys(count, fds)
            self.assertIs(self.takes(count, fds, answer[0], answer[1]), True)
            for which in (0, 1):
                for other in self.changed(chance, count, answer[which]):
                    if other != answer[which]:
                        lists = [answer[0], answer[1]]
                        lists[which] = other
                        self.assertIs(self.takes(count, fds, lists[0], lists[1]), False)
            if answer[0] != answer[1]:
                self.assertIs(self.takes(count, fds, answer[1], answer[0]), False)

    def changed(self, chance, count, told):
        """The list with a set left out, added, doubled or changed, and in another order."""
        at = chance.randrange(len(told) + 1)
        yield told[:at] + told[at + 1:]
        yield told[:at] + [plainly.some_set(chance, count)] + told[at:]
        yield told[:at] + [plainly.some_set(chance, count)] + told[at + 1:]
        yield sorted(told + [plainly.some_set(chance, count)])
        yield told + told[at:at + 1]
        yield told[::-1]
        yield [some + (count,) for some in told]
        yield [some[::-1] for some in told]

    def test_defined_here(self):
        for made in (keys, takes_keys):
            self.assertEqual(made.__module__, "followsortable.keys")
            self.assertIs(getattr(module, made.__name__), made)
        names = takes_keys.__code__.co_varnames[:takes_keys.__code__.co_argcount]
        self.assertEqual(names, ("count", "dependencies", "keys", "others"))


if __name__ == "__main__":
    unittest.main()
