"""Join trees: points 1 to 5 and 29, and the heading trees.py."""
import itertools
import random
import unittest

import plainly
from followsortable import trees
from followsortable.chase import follows
from followsortable.dependency import Jd, Mvd
from followsortable.trees import join_tree, takes_tree, tree_mvds

BIG = 10 ** 30
TRIANGLE = [(0, 1), (1, 2), (0, 2)]
PATH = [(0, 1), (1, 2), (2, 3)]


def some_lists(seed, turns, most=8):
    """Lists of 1 to 8 sets of each kind: acyclic ones, others, with few and with many columns."""
    chance = random.Random(seed)
    for many in range(1, most + 1):
        for turn in range(turns):
            count = chance.choice((1, 2, 3, 5, 10))
            if turn % 3 == 0:
                yield plainly.some_acyclic(chance, count, many)
            else:
                share = chance.choice((0.15, 0.3, 0.5))
                yield [plainly.some_set(chance, count, share) for _ in range(many)]


class JoinTree(unittest.TestCase):
    def look_at(self, parts):
        """Whether there is a join tree, by a paper that is right."""
        before = list(parts)
        paper = join_tree(parts)
        self.assertEqual(parts, before)
        self.assertEqual(join_tree(tuple(parts)), paper)
        self.assertTrue(plainly.is_tuples(paper))
        word, content = paper
        self.assertIn(word, ("tree", "core"))
        if word == "tree":
            self.assertEqual(len(content), len(parts) - 1)
            self.assertTrue(plainly.is_join_tree(parts, content))
        else:
            self.assertTrue(plainly.is_core(parts, content))
        self.assertIs(takes_tree(parts, paper), True)
        self.assertEqual(parts, before)
        return word == "tree"

    def test_by_hand(self):
        self.assertEqual(join_tree(PATH), ("tree", ((0, 1), (1, 2))))
        self.assertEqual(join_tree([(0, 1), (2, 3), (1, 2)]), ("tree", ((0, 2), (1, 2))))
        self.assertEqual(join_tree(TRIANGLE), ("core", (0, 1, 2)))
        self.assertIs(self.look_at(TRIANGLE + [(0, 1, 2)]), True)
        self.assertIs(self.look_at(TRIANGLE + [(0, 1, 2, 5)]), True)
        self.assertIs(self.look_at(TRIANGLE + [(0, 1, 5)]), False)
        self.assertIs(self.look_at([(0, 1), (1, 2), (2, 3), (0, 3)]), False)
        self.assertIs(self.look_at([(0, 1, 4), (1, 2, 5), (2, 3, 6), (0, 3, 7), (4, 8), (8, 9)]), False)
        self.assertIs(self.look_at([(0, 1, 2), (2, 3, 4), (0, 4, 5), (0, 2, 4)]), True)

    def test_what_is_no_core_is_left_out(self):
        word, columns = join_tree([(0, 1, 5), (1, 2, 6), (0, 2), (6, 7), ()])
        self.assertEqual((word, columns), ("core", (0, 1, 2)))

    def test_one_set(self):
        for parts in ([()], [(0,)], [(3, 9)], [tuple(range(10))]):
            self.assertEqual(join_tree(parts), ("tree", ()))

    def test_empty_and_equal_sets_and_sets_within_others(self):
        for parts in ([(), ()], [()] * 8, [(0, 1)] * 8, [(), (0,)], [(0,), (), (0,), ()], [(0, 1), (), (1, 2)]):
            self.assertIs(self.look_at(parts), True)
        self.assertIs(self.look_at([(0, 1, 2), (0, 1), (0,), (), (0, 1, 2), (1, 2), (0, 2), (2,)]), True)
        self.assertIs(self.look_at(TRIANGLE * 2 + [(), (0,)]), False)
        self.assertIs(self.look_at([(0,), (0, 1), (1,), (1, 2), (2,), (0, 2)]), False)

    def test_without_common_columns(self):
        self.assertIs(self.look_at([(at,) for at in range(8)]), True)
        self.assertIs(self.look_at([(0, 1), (4, 5), (8, 9)]), True)
        self.assertIs(self.look_at([(0, 3), (4, 5), (5, 8), (4, 8)]), False)

    def test_all_short_lists(self):
        sets = plainly.subsets(range(3))
        for many in (1, 2, 3):
            for parts in itertools.product(sets, repeat=many):
                self.assertIs(self.look_at(list(parts)), plainly.is_acyclic(parts))
        for parts in itertools.combinations(plainly.subsets(range(4))[5:], 4):
            self.assertIs(self.look_at(list(parts)), plainly.is_acyclic(parts))

    def test_many_lists(self):
        seen = {True: 0, False: 0}
        for parts in some_lists(101, 60):
            found = self.look_at(parts)
            seen[found] += 1
            if len(parts) < 6:
                self.assertIs(found, plainly.is_acyclic(parts))
        self.assertGreater(min(seen.values()), 20)

    def test_made_around_a_tree(self):
        chance = random.Random(102)
        for turn in range(100):
            self.assertIs(self.look_at(plainly.some_acyclic(chance, 10, 8)), True)

    def test_columns_of_any_number(self):
        self.assertIs(self.look_at([(BIG, BIG + 1), (BIG + 1, BIG + 2)]), True)


class TakesTree(unittest.TestCase):
    def takes(self, parts, paper):
        before = list(parts)
        found = takes_tree(parts, paper)
        self.assertIs(type(found), bool)
        self.assertEqual(list(parts), before)
        self.assertIs(found, plainly.takes_tree(parts, paper))
        return found

    def test_trees(self):
        self.assertIs(self.takes(PATH, ("tree", ((0, 1), (1, 2)))), True)
        for edges in (
            (), ((0, 1),), ((1, 2),), ((0, 1), (0, 2)), ((0, 2), (1, 2)), ((1, 2), (0, 1)), ((1, 0), (1, 2)),
            ((0, 1), (2, 1)), ((0, 1), (0, 1)), ((0, 1), (1, 2), (1, 2)), ((0, 1), (0, 2), (1, 2)),
            ((0, 1), (1, 3)), ((-1, 1), (1, 2)), ((0, 1), (1, -1)), ((-3, -2), (-2, -1)), ((0, 1), (1, 1)),
            ((0, 0), (0, 1)), ((0, 1), (1, BIG)), ((-BIG, 1), (1, 2)), ((0, 1), (1, 2), (2, 3)),
        ):
            self.assertIs(self.takes(PATH, ("tree", edges)), False)
        self.assertIs(self.takes(PATH, ("tree", ((0, 1), (1, 2)) * 1500)), False)

    def test_all_pairs_of_a_few_nodes(self):
        pairs = list(itertools.product(range(-1, 4), repeat=2))
        seen = {True: 0, False: 0}
        for parts in (PATH, [(0, 1), (0, 1), ()], [(0,), (0, 1), (0, 2)], TRIANGLE):
            for edges in itertools.product(pairs, repeat=2):
                seen[self.takes(parts, ("tree", edges))] += 1
        # The list with an empty set has two join trees, the one with a column in all sets has three.
        self.assertEqual(seen[True], 1 + 2 + 3 + 0)

    def test_edges_that_are_no_tree_but_as_many(self):
        parts = [(), (), (), ()]
        self.assertIs(self.takes(parts, ("tree", ((0, 1), (0, 2), (1, 2)))), False)
        self.assertIs(self.takes(parts, ("tree", ((0, 1), (0, 2), (1, 3)))), True)
        self.assertIs(self.takes([(0,), (0,), (0,), (1,)], ("tree", ((0, 1), (0, 2), (1, 2)))), False)

    def test_one_set(self):
        for parts in ([()], [(0, 1)]):
            self.assertIs(self.takes(parts, ("tree", ())), True)
            for edges in (((0, 0),), ((0, 1),), ((-1, 0),)):
                self.assertIs(self.takes(parts, ("tree", edges)), False)
            for columns in ((), (0,), (0, 1)):
                self.assertIs(self.takes(parts, ("core", columns)), False)

    def test_cores(self):
        parts = [(0, 1, 5), (1, 2, 6), (0, 2), (6, 7), ()]
        self.assertIs(self.takes(parts, ("core", (0, 1, 2))), True)
        for columns in (
            (), (0,), (0, 1), (1, 2), (0, 1, 2, 5), (0, 1, 2, 6), (0, 1, 2, 7), (0, 1, 2, 8), (0, 2, 1),
            (2, 1, 0), (0, 1, 1, 2), (0, 0, 1, 2), (0, 1, 2, 2), (-1, 0, 1, 2), (0, 1, 2, BIG), (-BIG, 0, 1, 2),
            (0, 1, 2) * 1000, tuple(range(3000)), (0,) * 3000, (3,), (8,),
        ):
            self.assertIs(self.takes(parts, ("core", columns)), False)
        self.assertIs(self.takes(parts, ("tree", ())), False)
        self.assertIs(takes_tree(parts, ("table", (0, 1, 2))), False)

    def test_cores_of_acyclic_lists(self):
        for parts in (PATH, TRIANGLE + [(0, 1, 2)], [(), ()], [(0, 1)] * 3, [(0,), (1,)]):
            for columns in plainly.subsets(range(5)):
                self.assertIs(self.takes(parts, ("core", columns)), False)

    def test_all_cores_of_short_lists(self):
        seen = {True: 0, False: 0}
        sets = plainly.subsets(range(3))
        for parts in itertools.product(sets, repeat=3):
            found = [self.takes(parts, ("core", columns)) for columns in sets]
            self.assertIs(any(found), not plainly.is_acyclic(parts))
            seen[any(found)] += 1
        self.assertGreater(min(seen.values()), 0)

    def test_more_than_one_core(self):
        ring = [(0, 1), (1, 2), (2, 3), (3, 4), (0, 4)]
        # With two chords the ring has triangles for cores, too.
        parts = ring + [(1, 3), (1, 4)]
        found = [columns for columns in plainly.subsets(range(5)) if self.takes(parts, ("core", columns))]
        self.assertIn((1, 2, 3), found)
        self.assertIn((0, 1, 4), found)
        self.assertIn((0, 1, 2, 3, 4), found)

    def test_changed_papers(self):
        chance = random.Random(103)
        seen = {True: 0, False: 0}
        for parts in some_lists(104, 40):
            word, content = join_tree(parts)
            for other in self.changed(chance, list(content), word):
                found = self.takes(parts, (word, tuple(other)))
                seen[found] += 1
                if found and len(parts) < 6:
                    self.assertIs(plainly.is_acyclic(parts), word == "tree")
            other = ("core", tuple(range(10))) if word == "tree" else ("tree", tuple((0, at) for at in range(1, 8)))
            self.assertIs(self.takes(parts, other), False)
        self.assertGreater(min(seen.values()), 20)

    def changed(self, chance, told, word):
        """A list with one thing left out, doubled, put in or changed, and in another order."""
        at = chance.randrange(len(told) + 1)
        column = chance.choice((-1, 0, 1, 2, 3, 4, 5, 6, 7, 8, BIG))
        one = (chance.randrange(-1, 9), chance.randrange(-1, 9)) if word == "tree" else column
        yield told[:at] + told[at + 1:]
        yield told[:at] + told[at:at + 1] + told[at:]
        yield told[:at] + [one] + told[at:]
        yield told[:at] + [one] + told[at + 1:]
        yield sorted(told[:at] + [one] + told[at + 1:])
        yield told[::-1]
        yield []
        if word == "tree":
            yield [(j, i) for i, j in told]
            yield [(i, j) for j, i in told[:at]] + told[at:]
            yield [(i, j + 1) for i, j in told]


class TreeMvds(unittest.TestCase):
    def look_at(self, parts, edges):
        """The dependencies as pairs, by the sets on both sides of each edge."""
        before = (list(parts), tuple(edges))
        found = tree_mvds(parts, edges)
        self.assertEqual((list(parts), tuple(edges)), before)
        self.assertEqual(tree_mvds(tuple(parts), list(edges)), found)
        self.assertIs(type(found), list)
        self.assertEqual([type(mvd) for mvd in found], [Mvd] * len(edges))
        for at, edge in enumerate(edges):
            rest = edges[:at] + edges[at + 1:]
            near = set()
            far = set()
            for node, part in enumerate(parts):
                (near if self.leads(rest, edge[0], node) else far).update(part)
            expected = (tuple(sorted(near & far)), tuple(sorted(near)))
            self.assertEqual((found[at].left, found[at].right), expected)
        return [(mvd.left, mvd.right) for mvd in found]

    def leads(self, edges, start, end):
        """Whether there is a way from one node to another one."""
        if start == end:
            return True
        for edge in edges:
            if start in edge:
                other = edge[1] if edge[0] == start else edge[0]
                if self.leads([one for one in edges if one != edge], other, end):
                    return True
        return False

    def test_by_hand(self):
        self.assertEqual(self.look_at(PATH, ((0, 1), (1, 2))), [((1,), (0, 1)), ((2,), (0, 1, 2))])
        self.assertEqual(self.look_at([(0, 1)], ()), [])
        self.assertEqual(self.look_at([(0,), (1,)], ((0, 1),)), [((), (0,))])
        self.assertEqual(self.look_at([(0, 1), (0, 1)], ((0, 1),)), [((0, 1), (0, 1))])
        self.assertEqual(self.look_at([(), (0, 1)], ((0, 1),)), [((), ())])
        # The edges in another order than join_tree gives them.
        self.assertEqual(self.look_at(PATH, ((1, 2), (0, 1))), [((2,), (0, 1, 2)), ((1,), (0, 1))])
        star = [(0, 1), (0, 1, 2, 3), (2, 4), (3, 5)]
        self.assertEqual(
            self.look_at(star, ((0, 1), (1, 2), (1, 3))),
            [((0, 1), (0, 1)), ((2,), (0, 1, 2, 3, 5)), ((3,), (0, 1, 2, 3, 4))],
        )

    def test_many_trees(self):
        for parts in some_lists(105, 40):
            word, edges = join_tree(parts)
            if word == "tree":
                self.look_at(parts, edges)

    def test_all_join_trees_of_a_list(self):
        parts = [(0, 1), (1,), (1, 2), (1, 2, 3)]
        pairs = list(itertools.combinations(range(4), 2))
        told = [edges for edges in itertools.combinations(pairs, 3) if plainly.is_join_tree(parts, edges)]
        self.assertGreater(len(told), 1)
        for edges in told:
            self.look_at(parts, edges)

    def test_they_and_the_join_dependency_follow_from_one_another(self):
        chance = random.Random(106)
        from_all = of_three = 0
        while from_all < 80 or of_three < 40:
            count = chance.randrange(1, 6)
            most = 6 if count < 5 else 4
            parts = list(plainly.some_jd(chance, count, chance.randrange(1, most + 1)).parts)
            word, edges = join_tree(parts)
            if word == "tree":
                found = self.look_at(parts, edges)
                mvds = [Mvd(left, right) for left, right in found]
                self.assertIs(follows(count, mvds, Jd(parts))[0], True)
                from_all += 1
                if len(parts) <= 3:
                    of_three += 1
                    self.assertEqual([follows(count, [Jd(parts)], mvd)[0] for mvd in mvds], [True] * len(mvds))

    def test_a_new_list_each_time(self):
        tree_mvds(PATH, ((0, 1), (1, 2))).clear()
        self.assertEqual(len(tree_mvds(PATH, ((0, 1), (1, 2)))), 2)

    def test_defined_here(self):
        for made in (join_tree, takes_tree, tree_mvds):
            self.assertEqual(made.__module__, "followsortable.trees")
            self.assertIs(getattr(trees, made.__name__), made)
        self.assertEqual(tree_mvds.__code__.co_varnames[:2], ("parts", "edges"))
        self.assertEqual(takes_tree.__code__.co_varnames[:2], ("parts", "paper"))


if __name__ == "__main__":
    unittest.main()
