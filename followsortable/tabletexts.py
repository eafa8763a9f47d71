"""The texts of tables, written and read."""
from followsortable.errors import InvalidText
from followsortable.table import Table

DIGITS = "0123456789"


def write_table(table):
    """The text of a table: a line for the columns and one for each row."""
    lines = [["columns"] + _words(table.columns)] + [_words(row) or ["-"] for row in table.rows]
    return "".join([" ".join(words) + "\n" for words in lines])


def read_table(text):
    """The table that has a text; raises InvalidText if there is none."""
    lines = text.split("\n")
    if lines[-1] == "":
        lines.pop()
    columns = None
    rows = []
    where = 0
    for line in lines:
        if columns is None:
            columns = _columns_in(line)
            fit = columns is not None
        else:
            row = _row_in(line, len(columns))
            fit = row is not None and (rows == [] or row > rows[-1])
            rows.append(row)
        if not fit:
            raise InvalidText(where)
        where += len(line) + 1
    # Behind a last line without its newline where is one too great.
    if columns is None or where > len(text):
        raise InvalidText(len(text))
    return Table(columns, rows)


def _words(numbers):
    return [str(number) for number in numbers]


def _columns_in(line):
    """The columns that a line tells, or None if it is not the line of columns."""
    first, *words = line.split(" ")
    if first != "columns" or not all([len(word) == 1 and _is_number(word) for word in words]):
        return None
    columns = [int(word) for word in words]
    return columns if columns == sorted(set(columns)) else None


def _row_in(line, many):
    """The row of so many numbers that a line tells, or None if it is not the line of such a row."""
    if many == 0:
        return () if line == "-" else None
    words = line.split(" ")
    if len(words) != many or not all([_is_number(word) for word in words]):
        return None
    return tuple([int(word) for word in words])


def _is_number(word):
    """Whether a word is a number in decimal digits, without zeros ahead of it."""
    digits = word[1:] if word.startswith("-") else word
    if digits == "" or not all([sign in DIGITS for sign in digits]):
        return False
    return word == "0" or digits[0] != "0"
