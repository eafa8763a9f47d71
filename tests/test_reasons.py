"""Reasons: points 1 to 5 and 36, and the heading reasons.py."""
import itertools
import random
import time
import unittest

import plainly
from followsortable import reasons as module
from followsortable.dependency import Fd
from followsortable.reasons import reasons, takes_reasons

BIG = 10 ** 30


class Reasons(unittest.TestCase):
    def look_at(self, fds, target):
        before = (plainly.all_fields(fds), plainly.fields(target))
        answer = reasons(fds, target)
        self.assertEqual((plainly.all_fields(fds), plainly.fields(target)), before)
        self.assertEqual(reasons(tuple(fds), target), answer)
        self.assertEqual(answer, plainly.all_reasons(fds, target))
        self.assertIs(type(answer), tuple)
        self.assertEqual([type(part) for part in answer], [list, list])
        self.assertTrue(all(plainly.is_tuples(tuple(part)) for part in answer))
        self.assertIs(takes_reasons(fds, target, answer[0], answer[1]), True)
        return answer

    def test_by_hand(self):
        fds = [Fd([0], [1]), Fd([1], [2]), Fd([0], [2]), Fd([2], [3])]
        self.assertEqual(self.look_at(fds, Fd([0], [2])), ([(0, 1), (2,)], [(0, 3), (1, 3)]))
        self.assertEqual(self.look_at(fds, Fd([0], [3])), ([(0, 1, 3), (2, 3)], [(0, 1, 2), (0, 3), (1, 3)]))
        self.assertEqual(self.look_at(fds, Fd([0], [1, 3])), ([(0, 1, 3), (0, 2, 3)], [(0, 1, 2), (0, 3), (1, 2, 3)]))

    def test_no_dependencies(self):
        self.assertEqual(self.look_at([], Fd([0], [0])), ([()], []))
        self.assertEqual(self.look_at([], Fd([0], [])), ([()], []))
        self.assertEqual(self.look_at([], Fd([], [])), ([()], []))
        self.assertEqual(self.look_at([], Fd([0], [1])), ([], [()]))
        self.assertEqual(self.look_at([], Fd([], [1])), ([], [()]))

    def test_a_target_that_follows_from_none(self):
        fds = [Fd([0], [1]), Fd([1], [2])]
        for target in (Fd([0, 1], [1]), Fd([2], []), Fd([], []), Fd([0, 1, 2], [0, 1, 2])):
            self.assertEqual(self.look_at(fds, target), ([()], []))

    def test_a_target_that_does_not_follow(self):
        fds = [Fd([0], [1]), Fd([1], [2]), Fd([5], [0])]
        for target in (Fd([1], [0]), Fd([], [0]), Fd([2], [2, 3])):
            self.assertEqual(self.look_at(fds, target), ([], [(0, 1, 2)]))

    def test_the_same_dependency_twice(self):
        fds = [Fd([0], [1]), Fd([0], [1]), Fd([0], [1])]
        self.assertEqual(self.look_at(fds, Fd([0], [1])), ([(0,), (1,), (2,)], [()]))
        fds = [Fd([0], [1]), Fd([1], [2]), Fd([0], [1])]
        self.assertEqual(self.look_at(fds, Fd([0], [2])), ([(0, 1), (1, 2)], [(0, 2), (1,)]))

    def test_dependencies_that_help_nothing(self):
        fds = [Fd([], []), Fd([0], [0]), Fd([], [1])]
        self.assertEqual(self.look_at(fds, Fd([0], [1])), ([(2,)], [(0, 1)]))

    def test_in_ascending_order_of_tuples(self):
        fds = [Fd([0], [1]), Fd([1], [9]), Fd([0], [2]), Fd([2], [9]), Fd([0], [9])]
        self.assertEqual(
            self.look_at(fds, Fd([0], [9])),
            ([(0, 1), (2, 3), (4,)], [(0, 2), (0, 3), (1, 2), (1, 3)]),
        )

    def test_many_lists(self):
        chance = random.Random(151)
        kinds = {"none": 0, "some": 0, "all": 0}
        for turn in range(200):
            count = chance.randrange(1, 6)
            fds = plainly.some_fds(chance, count, turn % 8, chance.choice((0.2, 0.35, 0.5)))
            target = Fd(plainly.some_set(chance, count, 0.3), plainly.some_set(chance, count, 0.3))
            found, others = self.look_at(fds, target)
            kinds["none" if not found else "all" if not others else "some"] += 1
        self.assertGreater(min(kinds.values()), 20)

    def test_ten_dependencies(self):
        chance = random.Random(152)
        start = time.process_time()
        chain = [Fd([at], [at + 1]) for at in range(9)]
        self.assertEqual(self.look_at(chain + [Fd([0], [5])], Fd([0], [9]))[0], [tuple(range(9)), (5, 6, 7, 8, 9)])
        single = [Fd([0], [at]) for at in range(10)]
        self.assertEqual(self.look_at(single, Fd([0], range(10)))[0], [tuple(range(1, 10))])
        # Two ways for each of five steps: 32 reasons.
        twice = [Fd([at // 2], [at // 2 + 1]) for at in range(10)]
        found, others = self.look_at(twice, Fd([0], [5]))
        self.assertEqual(found, sorted(tuple(some) for some in itertools.product(*[(at, at + 1) for at in range(0, 10, 2)])))
        self.assertEqual(len(others), 5)
        for turn in range(10):
            fds = plainly.some_fds(chance, 10, 10, 0.2)
            self.look_at(fds, Fd(plainly.some_set(chance, 10, 0.3), plainly.some_set(chance, 10, 0.2)))
        self.assertLess(time.process_time() - start, 30)

    def test_new_lists_each_time(self):
        first, second = reasons([Fd([0], [1])], Fd([0], [1]))
        first.append("more")
        second.append("more")
        self.assertEqual(reasons([Fd([0], [1])], Fd([0], [1])), ([(0,)], [()]))


class TakesReasons(unittest.TestCase):
    def takes(self, fds, target, found, others):
        before = (plainly.all_fields(fds), list(found), list(others))
        taken = takes_reasons(fds, target, found, others)
        self.assertIs(type(taken), bool)
        self.assertEqual((plainly.all_fields(fds), list(found), list(others)), before)
        self.assertIs(takes_reasons(tuple(fds), target, tuple(found), tuple(others)), taken)
        return taken

    def test_by_hand(self):
        fds = [Fd([0], [1]), Fd([1], [2]), Fd([0], [2]), Fd([2], [3])]
        target = Fd([0], [2])
        right, rest = [(0, 1), (2,)], [(0, 3), (1, 3)]
        self.assertIs(self.takes(fds, target, right, rest), True)
        for wrong in (
            [], [(2,)], [(0, 1)], [(2,), (0, 1)], [(1, 0), (2,)], [(0, 1), (2,), (2,)], [(0, 1), (0, 2), (2,)],
            [(0, 1), (2,), (3,)], [(), (0, 1), (2,)], [(0, 1), (2, 4)], [(-4, 1), (2,)], [(0, 1), (-2,)],
            [(0, 1), (BIG,)], [(0, 1), (2, 2)], [(0, 1), tuple(range(3000))], [(0, 1), (2,)] * 1500, rest,
        ):
            self.assertIs(self.takes(fds, target, wrong, rest), False)
        for wrong in (
            [], [(0, 3)], [(1, 3), (0, 3)], [(0, 3), (1, 3), (1, 3)], [(0,), (0, 3), (1, 3)], [(0, 3), (3, 1)],
            [(0, 3), (1, 3), (4,)], [(0, 3, 4), (1, 3)], [(0, -1), (1, -1)], [(0, 1, 2, 3)], [()], right,
        ):
            self.assertIs(self.takes(fds, target, right, wrong), False)
        self.assertIs(self.takes(fds, target, rest, right), False)
        self.assertIs(self.takes([], Fd([0], [1]), [], [()]), True)
        self.assertIs(self.takes([], Fd([0], [1]), [()], []), False)

    def test_changed_lists(self):
        chance = random.Random(153)
        for turn in range(150):
            count = chance.randrange(1, 6)
            fds = plainly.some_fds(chance, count, chance.randrange(8))
            target = Fd(plainly.some_set(chance, count, 0.3), plainly.some_set(chance, count, 0.3))
            answer = reasons(fds, target)
            self.assertIs(self.takes(fds, target, answer[0], answer[1]), True)
            for which in (0, 1):
                for other in self.changed(chance, len(fds), answer[which]):
                    if other != answer[which]:
                        lists = [answer[0], answer[1]]
                        lists[which] = other
                        self.assertIs(self.takes(fds, target, lists[0], lists[1]), False)
            self.assertIs(self.takes(fds, target, answer[1], answer[0]), False)

    def changed(self, chance, many, told):
        """The list with a set left out, added, doubled or exchanged, in another order, and with wrong indexes."""
        at = chance.randrange(len(told) + 1)
        some = plainly.some_set(chance, many)
        yield told[:at] + told[at + 1:]
        yield told[:at] + [some] + told[at:]
        yield told[:at] + [some] + told[at + 1:]
        yield sorted(told + [some])
        yield told + told[at:at + 1]
        yield told[::-1]
        yield chance.sample(told, len(told))
        yield [one + (many,) for one in told]
        yield [one[::-1] for one in told]
        yield [tuple(index - many for index in one) for one in told]

    def test_defined_here(self):
        for made in (reasons, takes_reasons):
            self.assertEqual(made.__module__, "followsortable.reasons")
            self.assertIs(getattr(module, made.__name__), made)
        names = takes_reasons.__code__.co_varnames[:takes_reasons.__code__.co_argcount]
        self.assertEqual(names, ("dependencies", "target", "reasons", "others"))


if __name__ == "__main__":
    unittest.main()
