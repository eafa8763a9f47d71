"""The errors that the program raises.

Their messages hold no numbers: Python does not write out a number of
several thousand digits, and the numbers here may be of any size.
"""


class TableError(ValueError):
    """The base class of all errors of the program."""


class InvalidTable(TableError):
    """Columns or rows that make no table."""


class InvalidText(TableError):
    """A text that is none of what is read; where: how far it could be one."""

    def __init__(self, where):
        super().__init__("the text is not such a text")
        self.where = where


class Broken(TableError):
    """A row that would break a dependency; index: that of the dependency."""

    def __init__(self, index):
        super().__init__("a dependency would be broken")
        self.index = index


class NoMark(TableError):
    """A number of changes that there are not; mark: the number."""

    def __init__(self, mark):
        super().__init__("there is no such mark")
        self.mark = mark
