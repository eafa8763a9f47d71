"""The interface as a whole: its names and arguments, and what points 1 to 5 promise of each function."""
import copy
import importlib
import inspect
import unittest

import plainly
from followsortable import errors
from followsortable.dependency import Fd, Jd, Mvd
from followsortable.store import Store
from followsortable.table import Table

FUNCTIONS = {
    "sets": [
        "as_set columns", "united a b", "met a b", "less a b", "is_within a b", "whole count", "all_sets columns",
    ],
    "table": ["project table columns", "join a b", "keeps table dependency"],
    "closure": ["closed dependencies columns", "follows_fd count dependencies target"],
    "basis": ["basis count dependencies columns", "follows_mvd count dependencies target"],
    "chase": ["follows count dependencies target"],
    "judge": ["takes count dependencies target verdict paper"],
    "covers": [
        "reduced dependencies", "fewest count dependencies", "takes_fewest count dependencies cover paper",
    ],
    "keys": ["keys count dependencies", "takes_keys count dependencies keys others"],
    "splits": [
        "lossless count dependencies parts", "kept count dependencies parts", "broken count dependencies columns",
        "boyce_codd count dependencies", "third count dependencies", "fourth count dependencies",
    ],
    "exact": ["table_fds table", "exact_table count dependencies"],
    "trees": ["join_tree parts", "takes_tree parts paper", "tree_mvds parts edges"],
    "joins": ["half_join a b", "join_all tables", "agree tables", "full tables"],
    "states": [
        "whole_table count dependencies tables", "takes_whole count dependencies tables verdict paper",
        "window count dependencies tables columns",
    ],
    "reasons": ["reasons dependencies target", "takes_reasons dependencies target reasons others"],
    "repairs": [
        "conflicts table dependencies", "repairs table dependencies", "sure table dependencies columns",
        "fewest_out table dependency",
    ],
    "texts": ["write dependency", "write_all dependencies", "read text count", "read_all text count"],
    "tabletexts": ["write_table table", "read_table text"],
}
CLASSES = {
    "errors": ["TableError", "InvalidTable", "InvalidText", "Broken", "NoMark"],
    "dependency": ["Fd left right", "Mvd left right", "Jd parts"],
    "table": ["Table columns rows"],
    "store": ["Store count dependencies"],
}
METHODS = ["insert row", "remove row", "rows", "find columns cells", "mark", "back mark"]

FDS = [Fd([0], [1]), Fd([1], [2]), Fd([0, 2], [1])]
TABLE = Table([0, 1, 2], [(1, 2, 3), (1, 4, 3), (5, 2, 6)])
STATE = [Table([0, 1], [(1, 2), (3, 4)]), Table([1, 2], [(2, 5)])]
PARTS = [(0, 1), (1, 2)]
# Arguments for each function, more than one time for those with several kinds of answers.
CALLS = {
    "as_set": [([2, 0, 2],)], "united": [((0,), (1,))], "met": [((0, 1), (1,))], "less": [((0, 1), (1,))],
    "is_within": [((0,), (0, 1))], "whole": [(3,)], "all_sets": [((0, 1),)],
    "project": [(TABLE, (0, 2))], "join": [tuple(STATE)], "keeps": [(TABLE, FDS[0]), (TABLE, Jd(PARTS))],
    "closed": [(FDS, (0,))], "follows_fd": [(3, FDS, Fd([0], [2])), (3, FDS, Fd([2], [0]))],
    "basis": [(3, FDS, (0,))], "follows_mvd": [(3, FDS, Mvd([0], [2])), (3, FDS, Mvd([2], [0]))],
    "follows": [(3, FDS, Jd(PARTS)), (3, FDS[:1], Jd(PARTS))],
    "takes": [(3, FDS, FDS[1], True, ("derived", (("told", 1),))), (3, FDS, FDS[1], False, ("table", ((1, 2),)))],
    "reduced": [(FDS,)], "fewest": [(3, FDS)],
    "takes_fewest": [(3, FDS[:1], FDS[:1], ("spread", ((0,),), ())), (3, FDS, FDS, ("spread", (), ()))],
    "keys": [(3, FDS)], "takes_keys": [(3, FDS, [(0,)], [(1, 2)]), (3, FDS, [(0,)], [])],
    "lossless": [(3, FDS, PARTS), (3, [], PARTS)], "kept": [(3, FDS, PARTS), (3, FDS, [(0,), (1, 2)])],
    "broken": [(3, FDS, (0, 1, 2)), (3, FDS, (0, 1))], "boyce_codd": [(3, FDS)], "third": [(3, FDS)],
    "fourth": [(3, FDS + [Mvd([1], [0])])],
    "table_fds": [(TABLE,)], "exact_table": [(3, FDS)],
    "join_tree": [(PARTS,), (PARTS + [(0, 2)],)], "takes_tree": [(PARTS, ("tree", ((0, 1),))), (PARTS, ("core", (1,)))],
    "tree_mvds": [(PARTS, ((0, 1),))],
    "half_join": [tuple(STATE)], "join_all": [(STATE,)], "agree": [(STATE,)], "full": [(STATE,)],
    "whole_table": [(3, FDS, STATE), (3, FDS, [TABLE])],
    "takes_whole": [(3, FDS, [TABLE], False, ("clash", ((0, 0, 1, 1),))), (3, FDS, STATE, True, ("table", ((1, 2),)))],
    "window": [(3, FDS, STATE, (0, 2)), (3, FDS, [TABLE], (0,))],
    "reasons": [(FDS, Fd([0], [2])), (FDS, Fd([2], [0]))], "takes_reasons": [(FDS, Fd([0], [2]), [(0, 1)], [(0, 2), (1, 2)])],
    "conflicts": [(TABLE, FDS)], "repairs": [(TABLE, FDS)], "sure": [(TABLE, FDS, (0,))], "fewest_out": [(TABLE, FDS[0])],
    "write": [(FDS[0],), (Jd(PARTS),)], "write_all": [(FDS,)], "read": [("0 > 1", 2), ("join [0 1]", 2)],
    "read_all": [("0 > 1\n- >> 1\n", 2)], "write_table": [(TABLE,)], "read_table": [("columns 0\n1\n2\n",)],
}


def plain(value):
    """A value with all objects in it told by their fields, so that == compares all of it, lists and tuples too."""
    if isinstance(value, (Fd, Mvd, Jd)):
        return ("object",) + plainly.fields(value)
    if isinstance(value, Table):
        return ("object", "Table", value.columns, value.rows)
    if isinstance(value, (list, tuple)):
        return (type(value).__name__, [plain(part) for part in value])
    return (type(value).__name__, value)


def lists_in(value):
    """All lists within a value."""
    found = [value] if isinstance(value, list) else []
    if isinstance(value, (list, tuple)):
        for part in value:
            found.extend(lists_in(part))
    return found


def module_of(name):
    return importlib.import_module("followsortable." + name)


class Interface(unittest.TestCase):
    def parameters(self, function):
        return [name for name in inspect.signature(function).parameters if name != "self"]

    def test_functions(self):
        for module, told in FUNCTIONS.items():
            for line in told:
                name, *parameters = line.split()
                made = vars(module_of(module))[name]
                self.assertTrue(inspect.isfunction(made))
                self.assertEqual((made.__name__, made.__module__), (name, "followsortable." + module))
                self.assertEqual(self.parameters(made), parameters)

    def test_classes(self):
        for module, told in CLASSES.items():
            for line in told:
                name, *parameters = line.split()
                made = vars(module_of(module))[name]
                self.assertTrue(inspect.isclass(made))
                self.assertEqual((made.__name__, made.__module__), (name, "followsortable." + module))
                if parameters:
                    self.assertEqual(self.parameters(made), parameters)
        for line in METHODS:
            name, *parameters = line.split()
            self.assertEqual(self.parameters(vars(Store)[name]), parameters)

    def test_every_file_can_be_imported(self):
        for name in list(FUNCTIONS) + list(CLASSES):
            self.assertEqual(module_of(name).__name__, "followsortable." + name)

    def test_errors(self):
        found = [made for made in vars(errors).values() if inspect.isclass(made)]
        self.assertEqual(sorted(made.__name__ for made in found), sorted(CLASSES["errors"]))
        for made in found:
            self.assertEqual(made.__bases__, (ValueError,) if made is errors.TableError else (errors.TableError,))


class EachFunction(unittest.TestCase):
    def calls(self):
        for module, told in FUNCTIONS.items():
            for line in told:
                name = line.split()[0]
                for arguments in CALLS[name]:
                    yield name, vars(module_of(module))[name], arguments

    def test_there_is_a_call_of_each(self):
        self.assertEqual(sorted(CALLS), sorted(line.split()[0] for told in FUNCTIONS.values() for line in told))

    def test_arguments_stay_and_results_are_equal(self):
        for name, function, arguments in self.calls():
            passed = copy.deepcopy(arguments)
            first = plain(function(*passed))
            self.assertEqual(plain(passed), plain(arguments), name)
            self.assertEqual(plain(function(*passed)), first, name)
            self.assertEqual(plain(function(*copy.deepcopy(arguments))), first, name)

    def test_tuples_in_place_of_lists(self):
        for name, function, arguments in self.calls():
            others = [tuple(one) if isinstance(one, list) else one for one in arguments]
            self.assertEqual(plain(function(*others)), plain(function(*arguments)), name)

    def test_lists_are_new(self):
        for name, function, arguments in self.calls():
            passed = copy.deepcopy(arguments)
            found = function(*passed)
            first = plain(found)
            for some in lists_in(found):
                some.clear()
                some.append("changed")
            self.assertEqual(plain(passed), plain(arguments), name)
            self.assertEqual(plain(function(*passed)), first, name)

    def test_no_result_has_a_list_but_those_that_the_interface_names(self):
        for name, function, arguments in self.calls():
            found = function(*arguments)
            for part in found if isinstance(found, (list, tuple)) else [found]:
                if isinstance(part, tuple):
                    self.assertTrue(plainly.is_tuples(part), name)

    def test_true_and_false_are_nothing_else(self):
        judges = ["takes", "takes_fewest", "takes_keys", "takes_tree", "takes_whole", "takes_reasons"]
        for name, function, arguments in self.calls():
            if name in judges + ["is_within", "keeps", "agree"]:
                self.assertIs(type(function(*arguments)), bool, name)
            if name in ("follows", "follows_fd", "follows_mvd", "lossless", "kept", "whole_table"):
                self.assertIs(type(function(*arguments)[0]), bool, name)


if __name__ == "__main__":
    unittest.main()
