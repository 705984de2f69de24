"""All layings ranked by their points and what is left of the rack behind them, and the best one."""

from letterrack.points import points_of
from letterrack.search import all_layings
from letterrack.signs import left_of


def left_behind(rack, laying):
    return left_of(rack, "".join([sign for row, column, sign in laying]))


def ranked(board, book, rack, worths, bonus, leaves):
    pairs = []
    for laying in all_layings(board, book, rack):
        whole = points_of(board, worths, bonus, laying) + leaves.counts(left_behind(rack, laying))
        pairs.append((whole, laying))
    # Sorting keeps even ones in the order of all layings.
    return tuple(sorted(pairs, key=lambda pair: -pair[0]))


def best_laying(board, book, rack, worths, bonus, leaves):
    pairs = ranked(board, book, rack, worths, bonus, leaves)
    return pairs[0] if pairs != () else None
