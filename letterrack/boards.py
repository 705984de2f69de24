"""Boards: what lies on their cells, the marks of the cells, and the cell to begin with."""

from letterrack.errors import NoBoard
from letterrack.signs import is_sign, is_whole

FREE = "."
MARKS = ".234bcd"
MOST = 9


def is_block(thing):
    if not isinstance(thing, tuple) or not 1 <= len(thing) <= MOST:
        return False
    if not all([isinstance(text, str) for text in thing]):
        return False
    width = len(thing[0])
    return 1 <= width <= MOST and all([len(text) == width for text in thing])


def are_rows(thing):
    return is_block(thing) and all([sign == FREE or is_sign(sign) for sign in "".join(thing)])


def are_marks(thing):
    return is_block(thing) and all([sign in MARKS for sign in "".join(thing)])


def is_cell_of(rows, row, column):
    # Of whatever things: a begin or a triple that was handed in may hold any.
    if not is_whole(row) or not is_whole(column):
        return False
    return 0 <= row < len(rows) and 0 <= column < len(rows[0])


def is_begin_of(rows, thing):
    return isinstance(thing, tuple) and len(thing) == 2 and is_cell_of(rows, thing[0], thing[1])


def is_board(rows, marks, begin):
    if not are_rows(rows) or not are_marks(marks):
        return False
    if len(marks) != len(rows) or len(marks[0]) != len(rows[0]):
        return False
    return is_begin_of(rows, begin)


def column_text(rows, column):
    return "".join([row[column] for row in rows])


def turned_rows(rows):
    return tuple([column_text(rows, column) for column in range(len(rows[0]))])


class Board:
    def __init__(self, rows, marks, begin):
        if not is_board(rows, marks, begin):
            raise NoBoard("rows, marks and begin make no board")
        self.rows = rows
        self.marks = marks
        self.begin = begin

    def at(self, row, column):
        return self.rows[row][column] if is_cell_of(self.rows, row, column) else FREE

    def is_free(self):
        return all([sign == FREE for sign in "".join(self.rows)])

    def run(self, row, column, way):
        line = self.rows[row] if way == 0 else column_text(self.rows, column)
        place = column if way == 0 else row
        ahead = line[:place].rpartition(FREE)[2]
        signs = ahead + line[place:].partition(FREE)[0]
        first = place - len(ahead)
        return (row, first, signs) if way == 0 else (first, column, signs)

    def turned(self):
        begin = (self.begin[1], self.begin[0])
        return Board(turned_rows(self.rows), turned_rows(self.marks), begin)

    def laid(self, laying):
        lines = [list(row) for row in self.rows]
        for row, column, sign in laying:
            lines[row][column] = sign
        return Board(tuple(["".join(line) for line in lines]), self.marks, self.begin)
