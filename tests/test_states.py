"""States of parts: points 1 to 5 and 31 to 34, and the heading states.py."""
import itertools
import random
import time
import unittest

import plainly
from followsortable import states
from followsortable.dependency import Fd
from followsortable.states import takes_whole, whole_table, window
from followsortable.table import Table

BIG = 10 ** 40
CHAIN = [Fd([0], [1]), Fd([1], [2])]
# Column 1 comes from the first table, column 2 from the second one.
LINKED = [Table([0, 1], [(1, 2), (3, 4)]), Table([1, 2], [(2, 5)]), Table([0, 3], [(1, 7), (9, 8)])]
# The rows of column 0 and 2 say 5 and 6 for the same cell.
TORN = [Table([0, 1], [(1, 2)]), Table([1, 2], [(2, 5)]), Table([0, 2], [(1, 6)])]


def some_state(chance, count, many, most=3, cells=(0, 1, 2)):
    tables = []
    for _ in range(many):
        columns = plainly.some_set(chance, count, 0.5)
        tables.append(Table(columns, [[chance.choice(cells) for _ in columns] for _ in range(chance.randrange(most + 1))]))
    return tables


def of_one(chance, count, fds, many):
    """The projections of a table that keeps the dependencies, each with some of its rows."""
    rows = []
    for _ in range(8):
        row = tuple(chance.randrange(4) for _ in range(count))
        if plainly.is_whole(count, fds, [], rows + [row]):
            rows.append(row)
    tables = []
    for _ in range(many):
        columns = plainly.some_set(chance, count, 0.5)
        told = plainly.projected(Table(range(count), rows), columns)
        tables.append(Table(columns, [row for row in told if chance.random() < 0.7]))
    return tables


def some_states(seed, turns, most=5):
    """Triples of a number of columns, dependencies and a state."""
    chance = random.Random(seed)
    for turn in range(turns):
        count = chance.randrange(1, most + 1)
        fds = plainly.some_fds(chance, count, chance.randrange(6), chance.choice((0.2, 0.35, 0.5)))
        many = chance.randrange(6)
        if turn % 2:
            yield count, fds, some_state(chance, count, many, 3, chance.choice(((0, 1), (0, 1, 2, 3, 4, 5), (-1, BIG))))
        else:
            yield count, fds, of_one(chance, count, fds, many)


def big_states():
    """States at the bounds."""
    chance = random.Random(120)
    ring = [Fd([at], [(at + 1) % 10]) for at in range(10)]
    wide = [Fd(some, set(range(10)) - set(some)) for some in itertools.combinations(range(9), 2)]
    mixed = [Fd(chance.sample(range(10), 2), chance.sample(range(10), 4)) for _ in range(40)]
    for fds in (ring, wide, mixed, [Fd([], range(10))], [Fd([], [9])] * 40, []):
        for share in (1, 3, 100):
            tables = []
            for at in range(8):
                columns = sorted(chance.sample(range(10), chance.choice((1, 2, 5))))
                rows = [[row // share * 100 + column for column in columns] for row in range(8 if at < 4 else 7)]
                tables.append(Table(columns, rows))
            yield 10, fds, tables
    long = [Table([0, 1], [(0, row) for row in range(30)]), Table([1, 2], [(row, row + 100) for row in range(29)])]
    yield 10, [Fd([1], [2]), Fd([0], [3]), Fd([3], [4, 5, 6]), Fd([6], [7, 8, 9])], long + [Table([0, 9], [(0, 5)])]
    # Two known cells meet behind a long way, through all rows.
    way = [Table([0, 1], [(row, row + 1) for row in range(58)]), Table([0, 2], [(0, 1), (57, 2)])]
    yield 10, [Fd([0], [2]), Fd([1], [2]), Fd([2], [3]), Fd([3], [2])], way


class WholeTable(unittest.TestCase):
    def look_at(self, count, fds, tables):
        """Whether there is a whole table, by a paper that is right."""
        before = (plainly.all_fields(fds), [plainly.table_fields(table) for table in tables])
        answer = whole_table(count, fds, tables)
        self.assertEqual((plainly.all_fields(fds), [plainly.table_fields(table) for table in tables]), before)
        self.assertEqual(whole_table(count, tuple(fds), tuple(tables)), answer)
        self.assertTrue(plainly.is_tuples((answer[1],)) and type(answer) is tuple)
        verdict, paper = answer
        self.assertIs(type(verdict), bool)
        self.assertEqual(paper[0], "table" if verdict else "clash")
        self.assertTrue(plainly.takes_whole(count, fds, tables, verdict, paper))
        self.assertIs(takes_whole(count, fds, tables, verdict, paper), True)
        self.assertIs(takes_whole(count, fds, tables, not verdict, paper), False)
        self.assertEqual((plainly.all_fields(fds), [plainly.table_fields(table) for table in tables]), before)
        return verdict

    def test_by_hand(self):
        self.assertIs(self.look_at(4, CHAIN, LINKED), True)
        self.assertIs(self.look_at(3, CHAIN, TORN), False)
        self.assertIs(self.look_at(3, CHAIN[:1], TORN), True)
        self.assertIs(self.look_at(3, CHAIN, TORN[:2]), True)
        self.assertIs(self.look_at(2, [Fd([0], [1])], [Table([0, 1], [(1, 2), (1, 3)])]), False)
        self.assertIs(self.look_at(2, [Fd([1], [0])], [Table([0, 1], [(1, 2), (1, 3)])]), True)

    def test_the_steps_of_a_clash_by_hand(self):
        self.assertEqual(
            whole_table(2, [Fd([1], [0]), Fd([0], [1])], [Table([0, 1], [(1, 2), (1, 3)])]),
            (False, ("clash", ((1, 0, 1, 1),))),
        )

    def test_states_without_rows(self):
        for tables in ([], [Table([], [])], [Table([0], [])], [Table([0, 1], []), Table([1], []), Table([], [])]):
            for fds in ([], CHAIN[:1], [Fd([], [0, 1])]):
                self.assertEqual(whole_table(2, fds, tables), (True, ("table", ())))
                self.look_at(2, fds, tables)

    def test_a_table_without_columns(self):
        for fds in ([], CHAIN[:1], [Fd([], [0, 1])]):
            self.assertIs(self.look_at(2, fds, [Table([], [()])]), True)
            self.assertEqual(len(whole_table(2, fds, [Table([], [()])])[1][1]), 1)
            self.assertIs(self.look_at(2, fds, [Table([], [()]), Table([0], [(5,)]), Table([], [()])]), True)

    def test_the_same_columns_twice(self):
        tables = [Table([0, 1], [(1, 2)]), Table([0, 1], [(1, 2), (3, 4)])]
        self.assertIs(self.look_at(3, CHAIN, tables), True)
        self.assertIs(self.look_at(3, CHAIN, tables + [Table([0, 1], [(3, 5)])]), False)
        self.assertIs(self.look_at(3, CHAIN, tables * 4), True)

    def test_empty_left_sides(self):
        self.assertIs(self.look_at(3, [Fd([], [1])], [Table([0, 1], [(1, 2)]), Table([1, 2], [(2, 3)])]), True)
        self.assertIs(self.look_at(3, [Fd([], [1])], [Table([0, 1], [(1, 2)]), Table([1, 2], [(4, 3)])]), False)
        self.assertIs(self.look_at(3, [Fd([], [0, 1, 2])], [Table([0], [(1,)]), Table([1], [(5,)])]), True)
        self.assertIs(self.look_at(3, [Fd([], []), Fd([0], [0])], TORN), True)

    def test_columns_that_no_table_has(self):
        for fds in ([], [Fd([3], [4])], [Fd([4], [0])], [Fd([0], [4]), Fd([4], [1])], [Fd([], [5])]):
            self.assertIs(self.look_at(6, fds, [Table([0, 1], [(1, 2), (3, 4)])]), True)
        self.assertIs(self.look_at(6, [Fd([0], [4]), Fd([4], [1])], [Table([0, 1], [(1, 2), (1, 4)])]), False)
        self.assertIs(self.look_at(6, [Fd([], [5]), Fd([5], [1])], [Table([0, 1], [(1, 2), (3, 4)])]), False)

    def test_numbers_far_apart_and_below_0(self):
        for a, b in ((-BIG, BIG), (-1, -2), (0, -1), (BIG, BIG + 1), (1, 2)):
            tables = [Table([0, 1], [(a, a), (b, b)]), Table([1, 2], [(a, b), (b, a)])]
            self.assertIs(self.look_at(4, CHAIN, tables), True)
            self.assertIs(self.look_at(4, CHAIN + [Fd([], [0])], tables), False)

    def test_an_unknown_is_no_number_of_the_state(self):
        # An unknown that was 0, 1 or one more than the greatest number would break 0 > 1.
        for numbers in (range(6), range(-6, 0), (-1, 0, 1), (BIG, BIG + 1), (-BIG, BIG), (7,), (1, 2, 3, 5, 8)):
            first = Table([1], [(number,) for number in numbers])
            second = Table([0, 1], [(number, at) for at, number in enumerate(numbers)])
            for tables in ([first, second], [second, first], [second], [first]):
                self.assertIs(self.look_at(3, [Fd([0], [1])], tables), True)
                self.assertIs(self.look_at(3, [Fd([0], [1]), Fd([1], [2]), Fd([2], [1])], tables), True)

    def test_two_unknowns_are_two_numbers(self):
        tables = [Table([0], [(1,), (2,), (3,)]), Table([1], [(1,), (2,), (3,)])]
        self.assertIs(self.look_at(3, [Fd([1], [0]), Fd([2], [0, 1])], tables), True)

    def test_many_states(self):
        seen = {True: 0, False: 0}
        for count, fds, tables in some_states(121, 500):
            found = self.look_at(count, fds, tables)
            self.assertIs(found, plainly.state_chased(count, fds, tables) is not None)
            seen[found] += 1
        self.assertGreater(min(seen.values()), 40)

    def test_projections_of_a_table_that_keeps_all(self):
        chance = random.Random(122)
        for turn in range(100):
            fds = plainly.some_fds(chance, 4, 4, 0.35)
            self.assertIs(self.look_at(4, fds, of_one(chance, 4, fds, 4)), True)

    def test_against_all_small_tables(self):
        chance = random.Random(123)
        rows = list(itertools.product((0, 1, 2), repeat=2))
        every = [[row for at, row in enumerate(rows) if mask >> at & 1] for mask in range(2 ** len(rows))]
        clashed = 0
        for turn in range(40):
            fds = plainly.some_fds(chance, 2, chance.randrange(1, 3), 0.5)
            tables = some_state(chance, 2, 4, 2, (0, 1))
            fit = [some for some in every if plainly.is_whole(2, fds, tables, some)]
            if not self.look_at(2, fds, tables):
                clashed += 1
                self.assertEqual(fit, [])
            for columns in plainly.subsets(range(2)):
                found = window(2, fds, tables, columns)
                self.assertIs(found is None, not whole_table(2, fds, tables)[0])
                for some in fit:
                    self.assertLessEqual(set(found.rows), {tuple(row[at] for at in columns) for row in some})
        self.assertGreater(clashed, 3)

    def test_at_the_bounds(self):
        start = time.process_time()
        seen = {True: 0, False: 0}
        for count, fds, tables in big_states():
            self.assertLessEqual(sum(len(table.rows) for table in tables), 60)
            verdict, paper = whole_table(count, fds, tables)
            self.assertIs(plainly.takes_whole(count, fds, tables, verdict, paper), True)
            self.assertIs(takes_whole(count, fds, tables, verdict, paper), True)
            self.assertIs(window(count, fds, tables, (0, 2, 9)) is None, not verdict)
            seen[verdict] += 1
        self.assertGreater(min(seen.values()), 3)
        self.assertLess(time.process_time() - start, 60)


class TakesWhole(unittest.TestCase):
    def takes(self, count, fds, tables, verdict, paper):
        before = (plainly.all_fields(fds), [plainly.table_fields(table) for table in tables])
        found = takes_whole(count, fds, tables, verdict, paper)
        self.assertIs(type(found), bool)
        self.assertEqual((plainly.all_fields(fds), [plainly.table_fields(table) for table in tables]), before)
        self.assertIs(takes_whole(count, tuple(fds), tuple(tables), verdict, paper), found)
        self.assertIs(found, plainly.takes_whole(count, fds, tables, verdict, paper))
        return found

    def test_rows_by_hand(self):
        rows = ((1, 2, 5, 7), (3, 4, 0, 0), (9, 0, 0, 8))
        takes = lambda rows: self.takes(4, CHAIN, LINKED, True, ("table", rows))
        self.assertIs(takes(rows), True)
        self.assertIs(takes(rows[::-1]), True)
        self.assertIs(takes(rows + rows[::-1]), True)
        self.assertIs(takes(rows * 60), True)
        self.assertIs(takes(rows + ((100, 100, 100, -100),)), True)
        self.assertIs(takes(rows + ((-BIG, BIG, BIG, BIG),)), True)
        for at in range(3):
            self.assertIs(takes(rows[:at] + rows[at + 1:]), False)
            for wrong in ((), rows[at][:3], rows[at] + (0,), rows[at] * 700, (0,) * 3000, (rows[at][0],)):
                self.assertIs(takes(rows[:at] + (wrong,) + rows[at + 1:]), False)
                self.assertIs(takes(rows + (wrong,)), False)
        self.assertIs(takes(()), False)
        self.assertIs(takes(((),)), False)
        # The first two rows keep column 1 from telling column 2, or from being told by column 0.
        self.assertIs(takes(rows + ((1, 4, 0, 0),)), False)
        self.assertIs(takes(rows + ((7, 2, 6, 0),)), False)
        self.assertIs(takes(((1, 2, 6, 7),) + rows[1:]), False)
        self.assertIs(takes(((1, 2, 5, 8),) + rows[1:]), False)
        self.assertIs(self.takes(4, CHAIN, LINKED, False, ("table", rows)), False)

    def test_each_cell_changed(self):
        rows = ((1, 2, 5, 7), (3, 4, 0, 0), (9, 0, 0, 8))
        free = []
        for at, column in itertools.product(range(3), range(4)):
            for cell in (-1, 0, 2, 4, BIG):
                changed = [list(row) for row in rows]
                changed[at][column] = cell
                paper = ("table", tuple(tuple(row) for row in changed))
                if self.takes(4, CHAIN, LINKED, True, paper) and tuple(changed[at]) != rows[at]:
                    free.append((at, column))
        self.assertEqual(sorted(set(free)), [(1, 2), (1, 3), (2, 1), (2, 2)])

    def test_no_rows(self):
        self.assertIs(self.takes(2, CHAIN[:1], [], True, ("table", ())), True)
        self.assertIs(self.takes(2, CHAIN[:1], [], True, ("table", ((1, 2),))), True)
        self.assertIs(self.takes(2, CHAIN[:1], [], True, ("table", ((1, 2), (1, 3)))), False)
        self.assertIs(self.takes(2, CHAIN[:1], [Table([0], [])], True, ("table", ())), True)
        self.assertIs(self.takes(2, CHAIN[:1], [Table([], [])], True, ("table", ())), True)
        self.assertIs(self.takes(2, CHAIN[:1], [Table([], [()])], True, ("table", ())), False)
        self.assertIs(self.takes(2, CHAIN[:1], [Table([], [()])], True, ("table", ((1, 2),))), True)
        self.assertIs(self.takes(2, [], [], False, ("clash", ())), False)
        self.assertIs(self.takes(2, [], [], True, ("clash", ())), False)
        self.assertIs(self.takes(2, [], [], False, ("table", ())), False)
        self.assertIs(self.takes(4, [], [], True, ("clash", ((0, 0, 1, 2),))), False)

    def test_steps_by_hand(self):
        # Row 0 is 1 2 u0, row 1 is u1 2 5, row 2 is 1 u2 6.
        first, second, third = (1, 0, 1, 2), (0, 0, 2, 1), (1, 0, 2, 2)
        takes = lambda *steps: self.takes(3, CHAIN, TORN, False, ("clash", steps))
        self.assertIs(takes(first, second, third), True)
        self.assertIs(takes(second, first, third), True)
        self.assertIs(takes(second, third, first), True)
        self.assertIs(takes(first, second, (1, 2, 1, 2)), True)
        self.assertIs(takes((1, 1, 0, 2), (0, 2, 0, 1), third), True)
        for steps in (
            (), (first,), (first, second), (second, third), (first, third), (third,), (third, first, second),
            (first, third, second), (first, second, third, third), (first, second, third, first),
            (first, first, second, third), (first, second, second, third),
        ):
            self.assertIs(takes(*steps), False)
        self.assertIs(takes(*[first, second, third] * 1000), False)
        self.assertIs(self.takes(3, CHAIN, TORN, True, ("clash", (first, second, third))), False)

    def test_steps_with_one_number_changed(self):
        right = ((1, 0, 1, 2), (0, 0, 2, 1), (1, 0, 2, 2))
        for at, part in itertools.product(range(3), range(4)):
            for number in (-BIG, -3, -2, -1, 0, 1, 2, 3, 4, BIG):
                step = right[at][:part] + (number,) + right[at][part + 1:]
                paper = ("clash", right[:at] + (step,) + right[at + 1:])
                found = self.takes(3, CHAIN, TORN, False, paper)
                if step != right[at]:
                    # The last step may as well ask for the row 1 in place of the row 0.
                    self.assertIs(found, (at, part, number) == (2, 1, 1))

    def test_rows_exchanged_and_one_number_changed(self):
        right = ((1, 1, 0, 2), (0, 2, 0, 1), (1, 2, 0, 2))
        for at, part in itertools.product(range(3), range(4)):
            for number in (-BIG, -3, -2, -1, 3, BIG):
                step = right[at][:part] + (number,) + right[at][part + 1:]
                paper = ("clash", right[:at] + (step,) + right[at + 1:])
                self.assertIs(self.takes(3, CHAIN, TORN, False, paper), False)

    def test_columns_that_are_not_in_the_right_side(self):
        fds = [Fd([0], [1, 2])]
        tables = [Table([0, 1], [(1, 2)]), Table([0, 2], [(1, 3)]), Table([0, 1], [(1, 4)])]
        self.assertIs(self.takes(4, fds, tables, False, ("clash", ((0, 0, 2, 1),))), True)
        for column in (0, 2, 3, 4, -1, -3, BIG):
            self.assertIs(self.takes(4, fds, tables, False, ("clash", ((0, 0, 2, column),))), False)
            self.assertIs(self.takes(4, fds, tables, False, ("clash", ((0, 0, 1, column), (0, 0, 2, 1)))), column == 2)

    def test_an_unknown_is_replaced_in_all_rows(self):
        # Rows: 1 u0 u1 u2, 1 u3 u4 7, u5 5 u6 8.
        fds = [Fd([0], [1, 2]), Fd([2], [3]), Fd([1], [3])]
        tables = [Table([0], [(1,)]), Table([0, 3], [(1, 7)]), Table([1, 3], [(5, 8)])]
        self.assertIs(self.takes(4, fds, tables, False, ("clash", ((0, 0, 1, 1), (0, 0, 1, 2), (1, 0, 1, 3)))), False)
        self.assertIs(whole_table(4, fds, tables)[0], True)
        more = tables + [Table([0, 1], [(1, 5)])]
        # Now row 2 is 1 5 u5 u6 and the last one u7 5 u8 8, in the order of the tables.
        more = [more[0], more[1], more[3], more[2]]
        steps = ((0, 0, 1, 1), (0, 1, 2, 1), (2, 0, 1, 3), (2, 0, 3, 3))
        self.assertIs(self.takes(4, fds, more, False, ("clash", steps)), True)
        self.assertIs(self.takes(4, fds, more, False, ("clash", steps[1:])), False)
        self.assertIs(self.takes(4, fds, more, False, ("clash", steps[:2] + steps[3:])), False)

    def test_changed_papers(self):
        chance = random.Random(124)
        seen = {True: 0, False: 0}
        for count, fds, tables in some_states(125, 200):
            verdict, (word, content) = whole_table(count, fds, tables)
            for other in self.changed(chance, [list(part) for part in content], 4 if word == "clash" else count):
                paper = (word, tuple(tuple(part) for part in other))
                found = self.takes(count, fds, tables, verdict, paper)
                self.assertIs(self.takes(count, fds, tables, not verdict, paper), False)
                seen[found] += 1
        self.assertGreater(min(seen.values()), 100)

    def changed(self, chance, told, width):
        """Parts with one left out, doubled, put in, exchanged, changed in one number, or of another length."""
        at = chance.randrange(len(told) + 1)
        one = [chance.choice((-1, 0, 1, 2, 3, BIG)) for _ in range(width)]
        yield told[:at] + told[at + 1:]
        yield told[:at] + told[at:at + 1] + told[at:]
        yield told + told[at:at + 1]
        yield told[:at] + [one] + told[at:]
        yield chance.sample(told, len(told))
        yield []
        if told:
            for turn in range(3):
                some = [list(part) for part in told]
                chance.choice(some)[chance.randrange(width)] = chance.choice((-1, 0, 1, 2, 3, BIG))
                yield some


class Window(unittest.TestCase):
    def look_at(self, count, fds, tables, columns):
        before = (plainly.all_fields(fds), [plainly.table_fields(table) for table in tables])
        found = window(count, fds, tables, columns)
        self.assertEqual((plainly.all_fields(fds), [plainly.table_fields(table) for table in tables]), before)
        self.assertEqual(window(count, tuple(fds), tuple(tables), columns), found)
        verdict, (_, content) = whole_table(count, fds, tables)
        rows = plainly.window_rows(count, fds, tables, columns)
        if not verdict:
            self.assertIs(found, None)
            self.assertIs(rows, None)
            return None
        self.assertIs(type(found), Table)
        self.assertEqual(plainly.table_fields(found), (columns, rows))
        there = [{tuple(row[at] for at in columns) for row in content}]
        # Two more whole tables, whose unknowns have no numbers in common.
        for other in self.fillings(count, fds, tables):
            self.assertTrue(plainly.is_whole(count, fds, tables, other))
            there.append({tuple(row[at] for at in columns) for row in other})
        self.assertEqual(set(rows), set.intersection(*there))
        return list(rows)

    def fillings(self, count, fds, tables):
        cells = plainly.state_chased(count, fds, tables)
        for base in (2 * BIG, 3 * BIG):
            yield [tuple(number if kind == 0 else base + number for kind, number in row) for row in cells]

    def test_by_hand(self):
        self.assertEqual(self.look_at(4, CHAIN, LINKED, (0, 2)), [(1, 5)])
        self.assertEqual(self.look_at(4, CHAIN, LINKED, (0, 3)), [(1, 7), (9, 8)])
        self.assertEqual(self.look_at(4, CHAIN, LINKED, (1, 3)), [(2, 7)])
        self.assertEqual(self.look_at(4, CHAIN, LINKED, (0, 1, 2, 3)), [(1, 2, 5, 7)])
        self.assertEqual(self.look_at(4, CHAIN, LINKED, (2,)), [(5,)])
        self.assertEqual(self.look_at(4, CHAIN, LINKED, ()), [()])
        self.assertEqual(self.look_at(4, [], LINKED, (0, 2)), [])
        self.assertEqual(self.look_at(4, [], LINKED, (0,)), [(1,), (3,), (9,)])
        self.assertIs(self.look_at(3, CHAIN, TORN, (0,)), None)
        self.assertIs(self.look_at(3, CHAIN, TORN, ()), None)

    def test_the_empty_set_and_states_without_rows(self):
        for tables in ([], [Table([], [])], [Table([0], []), Table([0, 1], [])]):
            for columns in plainly.subsets(range(2)):
                self.assertEqual(self.look_at(2, CHAIN[:1], tables, columns), [])
        for tables in ([Table([], [()])], [Table([0], []), Table([1], [(4,)])]):
            self.assertEqual(self.look_at(2, CHAIN[:1], tables, ()), [()])
            self.assertEqual(self.look_at(2, CHAIN[:1], tables, (0,)), [])

    def test_columns_that_no_table_has(self):
        self.assertEqual(self.look_at(6, [Fd([0], [5])], [Table([0], [(1,)])], (5,)), [])
        self.assertEqual(self.look_at(6, [Fd([0], [5])], [Table([0], [(1,)])], (0, 5)), [])
        self.assertEqual(self.look_at(6, [Fd([0], [5])], [Table([0], [(1,)])], (0,)), [(1,)])

    def test_an_empty_left_side(self):
        tables = [Table([0], [(1,), (2,)]), Table([1], [(5,)])]
        self.assertEqual(self.look_at(2, [Fd([], [1])], tables, (0, 1)), [(1, 5), (2, 5)])
        self.assertEqual(self.look_at(2, [], tables, (0, 1)), [])

    def test_many_states(self):
        none = 0
        rows = 0
        for count, fds, tables in some_states(126, 200, 4):
            for columns in plainly.subsets(range(count)):
                found = self.look_at(count, fds, tables, columns)
                none += found is None
                rows += bool(found)
        self.assertGreater(min(none, rows), 100)

    def test_defined_here(self):
        for made in (whole_table, takes_whole, window):
            self.assertEqual(made.__module__, "followsortable.states")
            self.assertIs(getattr(states, made.__name__), made)


if __name__ == "__main__":
    unittest.main()
