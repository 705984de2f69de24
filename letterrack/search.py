"""All layings that break no rule, for a board, a book and a rack."""

from letterrack.boards import FREE
from letterrack.crosses import cross_letters, free_cells, hooks
from letterrack.rules import MOST_TILES, cells_of
from letterrack.signs import letter_of, tile_of, turned_laying


def starts(board, word):
    cells = []
    for row in range(len(board.rows)):
        cells.extend([(row, column) for column in range(len(board.rows[0]) - len(word) + 1)])
    return cells


def letters_to_lay(board, row, column, word):
    # None at all where the word can't be a whole run across that begins here.
    if board.at(row, column - 1) != FREE or board.at(row, column + len(word)) != FREE:
        return []
    triples = []
    for place, letter in enumerate(word, start=column):
        sign = board.at(row, place)
        if sign == FREE:
            triples.append((row, place, letter))
        elif letter_of(sign) != letter:
            return []
    return triples


def letters_down(board, book):
    # Found once for each cell, since many words are tried there.
    fitting = {}
    for row, column in free_cells(board):
        fitting[(row, column)] = cross_letters(board, book, row, column, 1)
    return fitting


def can_be_laid(triples, fitting, joining):
    # A long word may need more tiles than a laying has, even where the rack has them.
    if not 1 <= len(triples) <= MOST_TILES:
        return False
    if not all([letter in fitting[(row, column)] for row, column, letter in triples]):
        return False
    return any([cell in joining for cell in cells_of(triples)])


def sign_texts(letters, rack):
    # Each letter small or great, as far as the rack has tiles for all of them.
    if letters == "":
        return [""]
    texts = []
    for sign in (letters[0], letters[0].upper()):
        tile = tile_of(sign)
        if tile in rack:
            left = rack.replace(tile, "", 1)
            texts.extend([sign + rest for rest in sign_texts(letters[1:], left)])
    return texts


def layings_of(triples, rack):
    cells = cells_of(triples)
    layings = []
    for signs in sign_texts("".join([letter for row, column, letter in triples]), rack):
        layings.append(tuple([(cell[0], cell[1], sign) for cell, sign in zip(cells, signs)]))
    return layings


def layings_across(board, book, rack):
    fitting = letters_down(board, book)
    joining = hooks(board)
    layings = []
    for word in book.words():
        for row, column in starts(board, word):
            triples = letters_to_lay(board, row, column, word)
            if can_be_laid(triples, fitting, joining):
                layings.extend(layings_of(triples, rack))
    return layings


def all_layings(board, book, rack):
    across = layings_across(board, book, rack)
    down = [turned_laying(laying) for laying in layings_across(board.turned(), book, rack)]
    # One sign that makes a word both ways is found twice.
    return tuple(sorted(set(across + down)))


def layings_at(board, book, rack, row, column):
    return tuple([laying for laying in all_layings(board, book, rack) if (row, column) in cells_of(laying)])
