"""Whole numbers, signs, the tiles that signs take out of a rack, and turned layings."""

from letterrack.errors import Lacking


def is_whole(thing):
    # For Python the truths are numbers too.
    return isinstance(thing, int) and not isinstance(thing, bool)


def is_sign(thing):
    if not isinstance(thing, str) or len(thing) != 1:
        return False
    return "a" <= thing <= "z" or "A" <= thing <= "Z"


def letter_of(sign):
    return sign.lower()


def tile_of(sign):
    return "?" if "A" <= sign <= "Z" else sign


def left_of(rack, signs):
    tiles = list(rack)
    for sign in signs:
        tile = tile_of(sign)
        if tile not in tiles:
            raise Lacking(tile)
        tiles.remove(tile)
    return "".join(sorted(tiles))


def turned_laying(laying):
    return tuple(sorted([(column, row, sign) for row, column, sign in laying]))
