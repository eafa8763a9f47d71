"""The store, the windows and the repairs together: points 34, 35 and 37; and texts of what else is made."""
import random
import unittest

import plainly
from followsortable.dependency import Jd
from followsortable.errors import Broken
from followsortable.repairs import conflicts, repairs, sure
from followsortable.splits import boyce_codd
from followsortable.states import window
from followsortable.store import Store
from followsortable.table import Table, keeps
from followsortable.tabletexts import read_table, write_table
from followsortable.texts import read, read_all, write, write_all


class Together(unittest.TestCase):
    def fill(self, count, fds, rows):
        """A store to which the rows were given in their order; those that it refused break one with a row there."""
        store = Store(count, fds)
        for row in rows:
            before = store.rows()
            try:
                self.assertIs(store.insert(row), row not in before)
            except Broken as error:
                self.assertEqual(store.rows(), before)
                fd = fds[error.index]
                broken = [one for one in before if plainly.agree(row, one, fd.left) and not plainly.agree(row, one, fd.right)]
                self.assertNotEqual(broken, [])
                for other in fds[:error.index]:
                    self.assertTrue(all(plainly.first_broken(row, one, [other]) is None for one in before))
        return store

    def look_at(self, count, fds, rows):
        store = self.fill(count, fds, rows)
        whole = tuple(range(count))
        table = Table(whole, store.rows())
        self.assertEqual(list(table.rows), store.rows())
        self.assertTrue(all(keeps(table, fd) and plainly.keeps(count, table.rows, fd) for fd in fds))
        self.assertEqual(conflicts(table, fds), [])
        self.assertEqual(repairs(table, fds), [table])
        self.assertEqual(sure(table, fds, whole), table)
        self.assertEqual(window(count, fds, [table], whole), table)
        asked = Table(whole, rows)
        self.assertIn(table, repairs(asked, fds))
        self.assertLessEqual(set(sure(asked, fds, whole).rows), set(table.rows))
        self.assertEqual(read_table(write_table(table)), table)
        return len(asked.rows) - len(table.rows)

    def test_many_series(self):
        chance = random.Random(191)
        refused = []
        for turn in range(300):
            count = chance.randrange(1, 5)
            fds = plainly.some_fds(chance, count, chance.randrange(5), chance.choice((0.2, 0.4)))
            cells = chance.choice(((0, 1), (-1, 0, 1), range(6)))
            rows = [tuple(chance.choice(cells) for _ in range(count)) for _ in range(chance.randrange(11))]
            refused.append(self.look_at(count, fds, rows))
        self.assertGreater(refused.count(0), 50)
        self.assertGreater(len(refused) - refused.count(0), 50)

    def test_each_repair_is_what_some_order_leaves(self):
        chance = random.Random(192)
        for turn in range(60):
            fds = plainly.some_fds(chance, 3, 3, 0.4)
            rows = [tuple(chance.randrange(3) for _ in range(3)) for _ in range(7)]
            for repair in repairs(Table(range(3), rows), fds):
                store = self.fill(3, fds, list(repair.rows) + rows)
                self.assertEqual(tuple(store.rows()), repair.rows)

    def test_texts_of_what_is_made(self):
        chance = random.Random(193)
        for turn in range(60):
            count = chance.randrange(1, 8)
            fds = plainly.some_fds(chance, count, 5, 0.3)
            self.assertEqual(read_all(write_all(fds), count), fds)
            made = Jd(boyce_codd(count, fds))
            self.assertEqual(read(write(made), count), made)


if __name__ == "__main__":
    unittest.main()
