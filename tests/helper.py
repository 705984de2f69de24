"""What the document says, told once more by other means than the program's; and small games to try it on."""

import itertools
import math

from letterrack.boards import Board
from letterrack.books import Book
from letterrack.errors import RackError
from letterrack.games import Game

SIGNS = "+abcdefghijklmnopqrstuvwxyz"


def texts_from(table, state, depth=0):
    """All texts that lead from this state to an end."""
    if depth > len(table):
        raise AssertionError("the table leads in a ring")
    is_end, pairs = table[state]
    told = [""] if is_end else []
    for sign, onward in pairs:
        told.extend(sign + rest for rest in texts_from(table, onward, depth + 1))
    return told


def come_to(table):
    """The states in the order in which they are first come to."""
    order = [0]
    for state in order:
        for _, onward in table[state][1]:
            if onward not in order:
                order.append(onward)
    return order


def check_form(case, table):
    case.assertIs(type(table), tuple)
    for row in table:
        case.assertIs(type(row), tuple)
        case.assertEqual(len(row), 2)
        case.assertIs(type(row[0]), bool)
        case.assertIs(type(row[1]), tuple)
        for pair in row[1]:
            case.assertEqual([type(part) for part in pair], [str, int])
            case.assertIs(type(pair), tuple)
        places = [SIGNS.index(sign) for sign, _ in row[1]]
        case.assertEqual(places, sorted(set(places)))


def check_least(case, table, texts):
    """The table is the one of the least machine for these texts."""
    check_form(case, table)
    case.assertEqual(sorted(texts_from(table, 0)), sorted(set(texts)))
    case.assertEqual(come_to(table), list(range(len(table))))
    seen = {}
    for state in range(len(table)):
        onward = tuple(sorted(texts_from(table, state)))
        if texts:
            case.assertTrue(onward, f"no end is come to from {state}")
        case.assertNotIn(onward, seen, f"{state} and {seen.get(onward)} let by the same")
        seen[onward] = state


def no_marks(rows):
    return ("." * len(rows[0]),) * len(rows)


def plain(rows, begin=(0, 0)):
    return Board(rows, no_marks(rows), begin)


def parts(board):
    return (board.rows, board.marks, board.begin)


def laying_of(cells, signs):
    return tuple((row, column, sign) for (row, column), sign in zip(cells, signs, strict=True))


# What 12 and 13 say, told once more by other means: a dict of the cells that aren't free, each rule by itself.


def held_cells(rows):
    return {(r, c): sign for r, line in enumerate(rows) for c, sign in enumerate(line) if sign != "."}


def plain_run(held, cell, down, right):
    row, column = cell
    while (row - down, column - right) in held:
        row, column = row - down, column - right
    first, signs = (row, column), ""
    while (row, column) in held:
        signs += held[(row, column)]
        row, column = row + down, column + right
    return first, signs


def plain_words(rows, laying):
    held = held_cells(rows)
    held.update({(row, column): sign for row, column, sign in laying})
    across = len({row for row, _, _ in laying}) == 1
    main, other = (0, 1) if across else (1, 0)
    asked = [(laying[0][:2], main)] + [(triple[:2], other) for triple in laying]
    told = []
    for cell, way in asked:
        first, signs = plain_run(held, cell, way, 1 - way)
        if len(signs) > 1:
            told.append(first + (way, signs))
    return tuple(told)


def straight_cells(laying):
    (row, column), (last_row, last_column) = laying[0][:2], laying[-1][:2]
    return list(itertools.product(range(row, last_row + 1), range(column, last_column + 1)))


def taken_by(rows, laying):
    held = held_cells(rows)
    return [("Taken",) + triple[:2] for triple in laying if triple[:2] in held]


def crooked_by(laying):
    straight = len({triple[0] for triple in laying}) == 1 or len({triple[1] for triple in laying}) == 1
    return [] if straight else [("Crooked",)]


def gap_by(rows, laying):
    cells = {triple[:2] for triple in laying} | set(held_cells(rows))
    return [("Gap",) + cell for cell in straight_cells(laying) if cell not in cells]


def apart_by(rows, begin, laying):
    held = set(held_cells(rows))
    cells = {triple[:2] for triple in laying}
    if not held:
        return [] if begin in cells else [("Apart",)]
    near = {cell for r, c in cells for cell in ((r - 1, c), (r + 1, c), (r, c - 1), (r, c + 1))}
    return [] if near & held else [("Apart",)]


def lacking_by(rack, laying):
    tiles = ["?" if sign.isupper() else sign for _, _, sign in laying]
    return [("Lacking", tile) for at, tile in enumerate(tiles) if tiles[: at + 1].count(tile) > rack.count(tile)]


def no_word_by(rows, words, laying):
    told = [signs.lower() for _, _, _, signs in plain_words(rows, laying)] or [laying[0][2].lower()]
    return [("NoWord", word) for word in told if word not in words]


def broken(rows, begin, words, rack, laying):
    """All that a laying (11) breaks, in the order of the rules; what the gaps of a crooked one are isn't told."""
    told = taken_by(rows, laying) + crooked_by(laying)
    if not crooked_by(laying):
        told += gap_by(rows, laying)
    return told + apart_by(rows, begin, laying) + lacking_by(rack, laying) + no_word_by(rows, words, laying)


# What 16 and 19 say: the points word by word, and all layings that there could be, asked one by one.


def plain_points(board, worths, bonus, laying):
    laid = {triple[:2] for triple in laying}
    total = bonus[1] if len(laying) >= bonus[0] else 0
    for row, column, way, signs in plain_words(board.rows, laying):
        cells = [(row + way * at, column + (1 - way) * at) for at in range(len(signs))]
        marks = [board.marks[r][c] if (r, c) in laid else "." for r, c in cells]
        counted = [worths.get(sign, 0) * {"2": 2, "3": 3, "4": 4}.get(mark, 1) for sign, mark in zip(signs, marks)]
        total += sum(counted) * math.prod({"b": 2, "c": 3, "d": 4}.get(mark, 1) for mark in marks)
    return total


def plain_signs(rack, many, letters):
    """All texts of so many signs that the tiles of the rack can be laid as, a blank as each of these letters."""
    if many == 0:
        return [""]
    told = []
    for tile in sorted(set(rack)):
        rests = plain_signs(rack.replace(tile, "", 1), many - 1, letters)
        told += [sign + rest for sign in (letters.upper() if tile == "?" else tile) for rest in rests]
    return told


def can_be_covered(rows, begin, cells):
    """Whether these cells break none of the rules that don't ask for signs."""
    laying = laying_of(cells, "a" * len(cells))
    return not (taken_by(rows, laying) or crooked_by(laying) or gap_by(rows, laying) or apart_by(rows, begin, laying))


def plain_layings(rows, begin, words, rack, letters):
    """All layings that break no rule, where a blank stands for these letters alone."""
    cells = [(row, column) for row in range(len(rows)) for column in range(len(rows[0]))]
    signs = {many: plain_signs(rack, many, letters) for many in range(1, min(7, len(rack)) + 1)}
    told = []
    for many in signs:
        for chosen in itertools.combinations(cells, many):
            if can_be_covered(rows, begin, chosen):
                # The signs are such as the rack has tiles for, so that words alone are still to be asked for.
                layings = [laying_of(chosen, laid) for laid in signs[many]]
                told += [laying for laying in layings if not no_word_by(rows, words, laying)]
    return tuple(sorted(told))


def fields(refusal):
    told = (refusal.__class__.__name__,)
    for name in ("row", "column", "tile", "word"):
        told += (getattr(refusal, name),) if hasattr(refusal, name) else ()
    return told


def told_by(call, *given):
    """What a call gives back, or its refusal's name and fields."""
    try:
        return call(*given)
    except RackError as refusal:
        return fields(refusal)


# Small games, for the tests of games and desks.

WORDS = ("ab", "ba", "aa", "aba", "bab", "cab", "abc")
WORTHS = {"a": 1, "b": 10, "c": 100}
NO_BONUS = (8, 0)


def game_of(racks, bag, rows=("....", "...."), size=3, bonus=NO_BONUS, marks=None, begin=(0, 0)):
    return Game(Board(rows, marks or no_marks(rows), begin), Book(WORDS), WORTHS, bonus, size, racks, bag)


def random_rows(source, signs):
    many, wide = source.randint(1, 6), source.randint(1, 6)
    return tuple("".join(source.choice(signs) for _ in range(wide)) for _ in range(many))
