"""Games: deeds of racks that take turns on a board, done and taken back."""

from letterrack.best import left_behind
from letterrack.errors import NoBack, NoDeed, Over, TooFew
from letterrack.points import points_of
from letterrack.rules import check_laying
from letterrack.signs import left_of

BLANK = "?"


def are_tiles(thing):
    if not isinstance(thing, str) or thing == "":
        return False
    return all([tile == BLANK or "a" <= tile <= "z" for tile in thing])


def is_deed(thing):
    # What stands where a laying stands is left to the rules.
    if not isinstance(thing, tuple):
        return False
    if len(thing) == 2:
        return thing[0] == "lay" or (thing[0] == "swap" and are_tiles(thing[1]))
    return thing == ("pass",)


def in_order(tiles):
    return "".join(sorted(tiles))


def exchanged(things, place, thing):
    return things[:place] + (thing,) + things[place + 1:]


# How a game stands between two deeds. It never changes, so that games can share it.
class Stand:
    def __init__(self, board, racks, bag, points):
        self.board = board
        self.racks = racks
        self.bag = bag
        self.points = points


def behind_laying(stand, turn, size, laying, points):
    left = left_behind(stand.racks[turn], laying)
    many = max(size - len(left), 0)
    rack = in_order(left + stand.bag[:many])
    racks = exchanged(stand.racks, turn, rack)
    sums = exchanged(stand.points, turn, stand.points[turn] + points)
    return Stand(stand.board.laid(laying), racks, stand.bag[many:], sums)


def behind_swap(stand, turn, tiles):
    # As a sign a blank is a great letter, whichever it stands for.
    left = left_of(stand.racks[turn], tiles.replace(BLANK, "A"))
    many = len(tiles)
    if len(stand.bag) < many:
        raise TooFew("the bag has fewer tiles")
    rack = in_order(left + stand.bag[:many])
    bag = stand.bag[many:] + in_order(tiles)
    return Stand(stand.board, exchanged(stand.racks, turn, rack), bag, stand.points)


class Game:
    def __init__(self, board, book, worths, bonus, size, racks, bag):
        self.book = book.twin()
        self.worths = dict(worths)
        self.bonus = bonus
        self.size = size
        # One stand more than what was done: the last is how the game stands now.
        self.stands = [Stand(board, tuple([in_order(rack) for rack in racks]), bag, (0,) * len(racks))]
        self.done = []

    def do(self, deed):
        if not is_deed(deed):
            raise NoDeed("no deed")
        if self.is_over():
            raise Over("the game is over")
        stand = self.stands[-1]
        turn = self.turn()
        points = 0
        if deed[0] == "lay":
            check_laying(stand.board, self.book, stand.racks[turn], deed[1])
            points = points_of(stand.board, self.worths, self.bonus, deed[1])
            stand = behind_laying(stand, turn, self.size, deed[1], points)
        elif deed[0] == "swap":
            stand = behind_swap(stand, turn, deed[1])
        self.stands.append(stand)
        self.done.append(deed[0])
        return points

    def back(self):
        if self.done == []:
            raise NoBack("nothing was done")
        self.stands.pop()
        self.done.pop()

    def board_now(self):
        return self.stands[-1].board

    def racks_now(self):
        return self.stands[-1].racks

    def bag_now(self):
        return self.stands[-1].bag

    def points_now(self):
        return self.stands[-1].points

    def turn(self):
        return len(self.done) % len(self.racks_now())

    def is_over(self):
        racks = self.racks_now()
        many = 2 * len(racks)
        if self.done[-many:] == ["pass"] * many:
            return True
        last = (len(self.done) - 1) % len(racks)
        return self.done[-1:] == ["lay"] and self.bag_now() == "" and racks[last] == ""

    def twin(self):
        first = self.stands[0]
        other = Game(first.board, self.book, self.worths, self.bonus, self.size, first.racks, first.bag)
        other.stands = list(self.stands)
        other.done = list(self.done)
        return other
