"""The letters that fit into a free cell, and the cells that a laying can be joined by."""

from letterrack.boards import FREE
from letterrack.rules import is_next_to_taken

LETTERS = "abcdefghijklmnopqrstuvwxyz"


def cross_letters(board, book, row, column, way):
    # Which letter is laid to find the run is all one: it is exchanged for each of them.
    run = board.laid(((row, column, "a"),)).run(row, column, way)
    if len(run[2]) == 1:
        return LETTERS
    place = column - run[1] if way == 0 else row - run[0]
    ahead = run[2][:place].lower()
    behind = run[2][place + 1:].lower()
    return "".join([letter for letter in LETTERS if book.has(ahead + letter + behind)])


def free_cells(board):
    cells = []
    for row, signs in enumerate(board.rows):
        cells.extend([(row, column) for column, sign in enumerate(signs) if sign == FREE])
    return cells


def hooks(board):
    if board.is_free():
        return (board.begin,)
    return tuple([cell for cell in free_cells(board) if is_next_to_taken(board, cell[0], cell[1])])
