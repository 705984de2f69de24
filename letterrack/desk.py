"""A desk: a game that is gone through by rows of words, each answered by a text."""

from letterrack.best import best_laying
from letterrack.errors import NoRow
from letterrack.games import are_tiles
from letterrack.search import all_layings
from letterrack.signs import is_sign


def is_figure(word):
    return len(word) == 1 and "0" <= word <= "9"


def are_triples(words):
    if words == [] or len(words) % 3 != 0:
        return False
    figures = words[0::3] + words[1::3]
    return all([is_figure(word) for word in figures]) and all([is_sign(word) for word in words[2::3]])


def laying_in(words):
    triples = []
    for row, column, sign in zip(words[0::3], words[1::3], words[2::3]):
        triples.append((int(row), int(column), sign))
    return tuple(sorted(triples))


def row_of(laying):
    words = ["lay"]
    for row, column, sign in laying:
        words.extend([str(row), str(column), sign])
    return " ".join(words)


def rack_of(game):
    return game.racks_now()[game.turn()]


def best_row(game, leaves):
    best = best_laying(game.board_now(), game.book, rack_of(game), game.worths, game.bonus, leaves)
    return row_of(best[1]) if best is not None else "none"


def answer_to(game, leaves, row):
    if row == "board":
        return "/".join(game.board_now().rows)
    if row == "rack":
        return rack_of(game) if rack_of(game) != "" else "-"
    if row == "points":
        return " ".join([str(points) for points in game.points_now()])
    if row == "best":
        return best_row(game, leaves)
    if row == "many":
        return str(len(all_layings(game.board_now(), game.book, rack_of(game))))
    raise NoRow("no row that a desk goes by")


class Desk:
    def __init__(self, game, leaves):
        self.game = game.twin()
        self.leaves = leaves

    def say(self, row):
        words = row.split(" ")
        if words[0] == "lay" and are_triples(words[1:]):
            return str(self.game.do(("lay", laying_in(words[1:]))))
        if len(words) == 2 and words[0] == "swap" and are_tiles(words[1]):
            self.game.do(("swap", words[1]))
            return "ok"
        if row == "pass":
            self.game.do(("pass",))
            return "ok"
        if row == "back":
            self.game.back()
            return "ok"
        return answer_to(self.game, self.leaves, row)

    def go_through(self, text):
        answers = []
        for row in text.split("\n"):
            answers.append(self.say(row))
        return "\n".join(answers)
