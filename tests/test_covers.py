"""Covers: points 1 to 5 and 19 to 21, and the heading covers.py."""
import itertools
import random
import unittest

import plainly
from followsortable import covers
from followsortable.covers import fewest, reduced, takes_fewest
from followsortable.dependency import Fd

BIG = 10 ** 30
CHAIN = [Fd([0], [1]), Fd([1], [2]), Fd([0], [2, 3]), Fd([0, 1], [3])]


def some_lists(seed):
    """Pairs of a number of columns and a list of functional dependencies."""
    chance = random.Random(seed)
    for count in range(1, 6):
        for turn in range(24):
            yield count, plainly.some_fds(chance, count, turn % 8, chance.choice((0.2, 0.4, 0.6)))


def long_lists(seed):
    """The same with ten columns and up to forty dependencies."""
    chance = random.Random(seed)
    for many in (1, 5, 12, 25, 40):
        yield plainly.some_fds(chance, 10, many, 0.3)
    yield [Fd(left, [9]) for left in list(itertools.combinations(range(9), 4))[:40]]
    yield [Fd(left, range(10)) for left in list(itertools.combinations(range(10), 5))[::6][:40]]
    yield [Fd([at], [(at + 1) % 10]) for at in range(10)]


def together(fds):
    """The dependencies with equal left sides put together."""
    found = {}
    for fd in fds:
        found.setdefault(fd.left, set()).update(fd.right)
    return [Fd(left, sorted(right)) for left, right in found.items()]


class Reduced(unittest.TestCase):
    def look_at(self, fds):
        before = plainly.all_fields(fds)
        found = reduced(fds)
        self.assertEqual(plainly.all_fields(fds), before)
        self.assertEqual(plainly.all_fields(reduced(tuple(fds))), plainly.all_fields(found))
        self.assertIs(type(found), list)
        self.assertTrue(plainly.say_the_same(fds, found))
        for at, fd in enumerate(found):
            self.assertIs(type(fd), Fd)
            self.assertEqual(len(fd.right), 1)
            self.assertNotIn(fd.right[0], fd.left)
            rest = found[:at] + found[at + 1:]
            self.assertFalse(plainly.say_the_same(fds, rest))
            for column in fd.left:
                smaller = Fd([other for other in fd.left if other != column], fd.right)
                self.assertFalse(plainly.say_the_same(fds, rest + [smaller]))
        return sorted((fd.left, fd.right) for fd in found)

    def test_by_hand(self):
        self.assertEqual(self.look_at(CHAIN), [((0,), (1,)), ((0,), (3,)), ((1,), (2,))])
        self.assertEqual(self.look_at([]), [])
        self.assertEqual(self.look_at([Fd([0, 1], [1]), Fd([], []), Fd([2], [])]), [])
        self.assertEqual(self.look_at([Fd([], [0]), Fd([0], [1]), Fd([0, 1], [2])]), [((), (0,)), ((), (1,)), ((), (2,))])
        self.assertEqual(self.look_at([Fd([0, 1], [2])] * 3), [((0, 1), (2,))])
        self.assertEqual(self.look_at([Fd([0, 1], [2]), Fd([0], [1])]), [((0,), (1,)), ((0,), (2,))])
        self.assertIn(len(self.look_at([Fd([0], [1, 2]), Fd([1], [0, 2]), Fd([2], [0, 1])])), (3, 4))

    def test_many_lists(self):
        for count, fds in some_lists(51):
            self.look_at(fds)

    def test_ten_columns(self):
        for fds in long_lists(52):
            self.look_at(fds)

    def test_a_new_list_each_time(self):
        reduced(CHAIN).clear()
        self.assertEqual(len(reduced(CHAIN)), 3)


class Fewest(unittest.TestCase):
    def look_at(self, count, fds):
        before = plainly.all_fields(fds)
        answer = fewest(count, fds)
        self.assertEqual(plainly.all_fields(fds), before)
        self.assertIs(type(answer), tuple)
        cover, paper = answer
        again = fewest(count, tuple(fds))
        self.assertEqual((plainly.all_fields(again[0]), again[1]), (plainly.all_fields(cover), paper))
        self.assertIs(type(cover), list)
        self.assertTrue(all(type(fd) is Fd for fd in cover))
        self.assertTrue(plainly.is_tuples(paper))
        self.assertEqual((paper[0], len(paper)), ("spread", 3))
        self.assertTrue(plainly.say_the_same(fds, cover))
        self.assertTrue(plainly.spread_is_right(count, fds, len(cover), paper))
        short = reduced(fds)
        for other in (fds, short, together(fds), together(short)):
            self.assertLessEqual(len(cover), len(other))
        self.assertIs(takes_fewest(count, fds, cover, paper), True)
        return cover

    def test_by_hand(self):
        self.assertEqual(len(self.look_at(4, CHAIN)), 2)
        self.assertEqual(self.look_at(4, []), [])
        self.assertEqual(fewest(3, [Fd([0], [0])]), ([], ("spread", (), ())))
        self.assertEqual(len(self.look_at(1, [Fd([], [0])])), 1)
        # Equal left sides put together would still leave three.
        same = [Fd([0], [1]), Fd([1], [0]), Fd([0, 2], [3]), Fd([1, 2], [4])]
        self.assertEqual(len(self.look_at(5, same)), 3)

    def test_no_shorter_list_is_a_cover(self):
        for count, fds in some_lists(53):
            if count > 4:
                break
            told = plainly.closures(count, fds)
            # With the greatest right sides a list says as much as it can.
            full = [Fd(left, right) for left, right in told.items() if left != right]
            many = len(self.look_at(count, fds))
            for fewer in range(many):
                for some in itertools.combinations(full, fewer):
                    self.assertFalse(plainly.follow_all(some, fds))

    def test_many_lists(self):
        for count, fds in some_lists(54):
            self.look_at(count, fds)

    def test_ten_columns(self):
        for fds in long_lists(55):
            self.look_at(10, fds)

    def test_columns_that_no_dependency_names(self):
        self.assertEqual(len(self.look_at(10, [Fd([4], [5]), Fd([5], [4])])), 2)


class TakesFewest(unittest.TestCase):
    # 0 > 1, 1 > 2 and 3 4 > 0, for five columns; not closed: (0,), (1,), (3, 4).
    fds = [Fd([0], [1]), Fd([1], [2]), Fd([3, 4], [0])]
    sets = ((0,), (1,), (3, 4))
    between = ((), (), ())

    def takes(self, cover, sets, between, fds=None):
        fds = self.fds if fds is None else fds
        before = (plainly.all_fields(fds), plainly.all_fields(cover))
        found = takes_fewest(5, fds, cover, ("spread", sets, between))
        self.assertIs(type(found), bool)
        self.assertEqual((plainly.all_fields(fds), plainly.all_fields(cover)), before)
        right = plainly.spread_is_right(5, fds, len(cover), ("spread", sets, between))
        self.assertIs(found, right and plainly.say_the_same(fds, cover))
        return found

    def test_right(self):
        self.assertIs(self.takes(self.fds, self.sets, self.between), True)
        self.assertIs(self.takes(tuple(self.fds), self.sets, self.between), True)
        self.assertIs(self.takes(self.fds[::-1], self.sets[::-1], self.between), True)
        self.assertIs(self.takes([Fd([0], [1, 2]), Fd([1], [2]), Fd([3, 4], [0, 1])], self.sets, self.between), True)
        self.assertIs(self.takes(self.fds, ((0,), (1,), (3, 4)), ((), (), ())), True)
        self.assertIs(takes_fewest(5, [], [], ("spread", (), ())), True)
        self.assertIs(takes_fewest(5, [], [], ("derived", (), ())), False)

    def test_sets_within_one_another(self):
        # 0 is within 0 1 2, which is closed and within 0 1 2 3 4.
        fds = [Fd([0], [1, 2]), Fd([0, 3], [4])]
        cover = [Fd([0], [1, 2]), Fd([0, 3], [4])]
        self.assertIs(self.takes(cover, ((0,), (0, 1, 2, 3)), ((0, 1, 2),), fds), True)
        self.assertIs(self.takes(cover, ((0, 1, 2, 3), (0,)), ((0, 1, 2),), fds), True)
        for wrong in ((0,), (0, 1), (0, 1, 2, 3), (0, 1, 2, 4), (0, 1, 2, 3, 4), (1, 2), ()):
            self.assertIs(self.takes(cover, ((0,), (0, 1, 2, 3)), (wrong,), fds), False)
            self.assertIs(self.takes(cover, ((0, 1, 2, 3), (0,)), (wrong,), fds), False)
        self.assertIs(self.takes(cover, ((0,), (0, 3)), ((0,),), fds), False)
        self.assertIs(self.takes(cover, ((0,), (0,)), ((0, 1, 2),), fds), False)
        self.assertIs(self.takes(cover, ((0,), (0,)), ((0,),), fds), False)

    def test_covers_that_are_none_or_too_long(self):
        self.assertIs(self.takes(self.fds[:2], self.sets[:2], self.between[:1]), False)
        self.assertIs(self.takes(self.fds[:2], self.sets, self.between), False)
        self.assertIs(self.takes(self.fds + self.fds[:1], self.sets, self.between), False)
        self.assertIs(self.takes(self.fds + self.fds[:1], self.sets + self.sets[:1], self.between * 2), False)
        self.assertIs(self.takes(self.fds[:2] + [Fd([3], [0])], self.sets, self.between), False)
        self.assertIs(self.takes(self.fds[:2] + [Fd([3, 4], [1])], self.sets, self.between), False)
        self.assertIs(self.takes(self.fds[:2] + [Fd([1], [2])], self.sets, self.between), False)
        self.assertIs(self.takes([Fd([0], [1]), Fd([0], [2]), Fd([3, 4], [0])], self.sets, self.between), False)
        self.assertIs(self.takes([], (), ()), False)

    def test_a_cover_with_columns_that_there_are_not(self):
        for wrong in (Fd([0, 5], [1]), Fd([0], [1, 5]), Fd([0], [1, BIG]), Fd([-1, 0], [1]), Fd([0], [-1, 1])):
            found = takes_fewest(5, self.fds, [wrong] + self.fds[1:], ("spread", self.sets, self.between))
            self.assertIs(found, False)

    def test_sets_changed(self):
        some = [(), (0, 1), (2,), (4, 3), (3,), (3, 4, 4), (3, 4, 5), (3, 4, BIG), (-1, 3, 4), (0, 1, 2), (0, 0)]
        for at in range(3):
            for wrong in some + [tuple(range(3000)), (0,) * 3000]:
                sets = self.sets[:at] + (wrong,) + self.sets[at + 1:]
                self.assertIs(self.takes(self.fds, sets, self.between), False)

    def test_sets_left_out_or_doubled(self):
        for sets in ((), self.sets[:2], self.sets[1:], self.sets + self.sets[:1], self.sets * 1000):
            for between in ((), self.between[:1], self.between, self.between * 2, self.between * 1000):
                self.assertIs(self.takes(self.fds, sets, between), False)

    def test_sets_between_changed(self):
        for at in range(3):
            for wrong in ((0,), (1, 2), (2,), (3,), (0, 1, 2), (5,), (-1,), (2, 2), (BIG,), tuple(range(3000))):
                between = self.between[:at] + (wrong,) + self.between[at + 1:]
                self.assertIs(self.takes(self.fds, self.sets, between), False)
        for between in ((), self.between[:2], self.between + ((),), self.between * 1000):
            self.assertIs(self.takes(self.fds, self.sets, between), False)

    def test_sets_between_that_are_closed_and_meet_wrongly(self):
        fds = [Fd([0, 1], [4]), Fd([0, 2], [4])]
        sets = ((0, 1), (0, 2))
        self.assertIs(self.takes(fds, sets, ((0,),), fds), True)
        for wrong in ((), (1,), (0, 3), (0, 4), (0, 1, 4)):
            self.assertIs(self.takes(fds, sets, (wrong,), fds), False)

    def test_exchanged(self):
        fds = [Fd([0], [1]), Fd([0, 1, 2], [3]), Fd([4], [2])]
        cover, paper = fewest(5, fds)
        _, sets, between = paper
        self.assertEqual(len(cover), 3)
        self.assertIs(self.takes(cover, sets, between, fds), True)
        # The order of the dependencies tells nothing, that of the sets and of those between does.
        self.assertIs(self.takes(cover[::-1], sets, between, fds), True)
        many = {True: 0, False: 0}
        for order in itertools.permutations(sets):
            for other in itertools.permutations(between):
                many[self.takes(cover, order, other, fds)] += 1
        self.assertGreater(many[False], many[True])

    def test_changed_answers(self):
        chance = random.Random(56)
        seen = {True: 0, False: 0}
        for count, fds in some_lists(57):
            cover, (word, sets, between) = fewest(count, fds)
            for turn in range(12):
                what = turn % 3
                lists = [list(cover), list(sets), list(between)]
                lists[what] = self.changed(chance, count, lists[what])
                paper = (word, tuple(lists[1]), tuple(lists[2]))
                found = takes_fewest(count, fds, lists[0], paper)
                right = plainly.spread_is_right(count, fds, len(lists[0]), paper)
                self.assertIs(found, right and plainly.say_the_same(fds, lists[0]))
                # Whatever is taken is true: there is no shorter cover.
                self.assertTrue(not found or len(lists[0]) == len(cover))
                seen[found] += 1
        self.assertGreater(min(seen.values()), 50)

    def changed(self, chance, count, told):
        """A list with one thing left out, doubled, exchanged or changed by a column."""
        turn = chance.randrange(5)
        at = chance.randrange(len(told)) if told else 0
        if turn == 0 or not told:
            return told[:at] + told[at + 1:]
        if turn == 1:
            return told + told[at:at + 1]
        if turn == 2:
            return chance.sample(told, len(told))
        column = chance.randrange(count)
        one = told[at]
        if isinstance(one, Fd):
            one = Fd(sorted(set(one.left) ^ {column}), one.right) if turn == 3 else Fd(one.left, set(one.right) ^ {column})
        else:
            one = tuple(sorted(set(one) ^ {column})) if turn == 3 else one + (column,)
        return told[:at] + [one] + told[at + 1:]

    def test_defined_here(self):
        for made in (reduced, fewest, takes_fewest):
            self.assertEqual(made.__module__, "followsortable.covers")
            self.assertIs(getattr(covers, made.__name__), made)


if __name__ == "__main__":
    unittest.main()
