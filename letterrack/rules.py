"""The words that a laying forms, and the first rule that it breaks."""

from letterrack.boards import FREE, is_cell_of
from letterrack.errors import Apart, Crooked, Gap, NoLaying, NoWord, Taken
from letterrack.signs import is_sign, left_of, letter_of

MOST_TILES = 7


def is_triple(board, thing):
    if not isinstance(thing, tuple) or len(thing) != 3:
        return False
    return is_cell_of(board.rows, thing[0], thing[1]) and is_sign(thing[2])


def is_laying(board, thing):
    if not isinstance(thing, tuple) or not 1 <= len(thing) <= MOST_TILES:
        return False
    if not all([is_triple(board, part) for part in thing]):
        return False
    cells = cells_of(thing)
    return all([cell < later for cell, later in zip(cells, cells[1:])])


def cells_of(laying):
    return [(row, column) for row, column, sign in laying]


def is_across(laying):
    return all([row == laying[0][0] for row, column, sign in laying])


def is_down(laying):
    return all([column == laying[0][1] for row, column, sign in laying])


def is_next_to_taken(board, row, column):
    around = ((row - 1, column), (row + 1, column), (row, column - 1), (row, column + 1))
    return any([board.at(near[0], near[1]) != FREE for near in around])


def formed(board, laying):
    after = board.laid(laying)
    way = 0 if is_across(laying) else 1
    asked = [(laying[0][0], laying[0][1], way)]
    asked.extend([(row, column, 1 - way) for row, column, sign in laying])
    words = []
    for row, column, along in asked:
        run = after.run(row, column, along)
        if len(run[2]) >= 2:
            words.append((run[0], run[1], along, run[2]))
    return tuple(words)


def check_free(board, laying):
    for row, column, sign in laying:
        if board.at(row, column) != FREE:
            raise Taken(row, column)


def check_straight(laying):
    if not is_across(laying) and not is_down(laying):
        raise Crooked("the cells are not in one line")


def check_gaps(board, laying):
    # Of a straight laying, so that one of the two ranges has one number alone.
    after = board.laid(laying)
    for row in range(laying[0][0], laying[-1][0] + 1):
        for column in range(laying[0][1], laying[-1][1] + 1):
            if after.at(row, column) == FREE:
                raise Gap(row, column)


def check_joined(board, laying):
    if board.is_free():
        joined = board.begin in cells_of(laying)
    else:
        joined = any([is_next_to_taken(board, row, column) for row, column, sign in laying])
    if not joined:
        raise Apart("the laying is joined to nothing")


def check_words(board, book, laying):
    words = formed(board, laying)
    if words == ():
        raise NoWord(letter_of(laying[0][2]))
    for row, column, way, signs in words:
        word = signs.lower()
        if not book.has(word):
            raise NoWord(word)


def check_laying(board, book, rack, laying):
    if not is_laying(board, laying):
        raise NoLaying("no laying for this board")
    check_free(board, laying)
    check_straight(laying)
    check_gaps(board, laying)
    check_joined(board, laying)
    # Asked for its refusal alone: Lacking.
    left_of(rack, "".join([sign for row, column, sign in laying]))
    check_words(board, book, laying)
