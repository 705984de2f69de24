"""A desk's rows and their answers [27], NoRow for any other row [28], rows gone through [29]."""

import random
import string
import unittest

from letterrack.best import best_laying
from letterrack.boards import Board
from letterrack.books import Book
from letterrack.desk import Desk
from letterrack.errors import NoBack, NoLaying, NoRow, Over, RackError
from letterrack.games import Game
from letterrack.leaves import Leaves
from letterrack.search import all_layings
from tests.helper import NO_BONUS, WORDS, WORTHS, fields, game_of, parts, told_by

NO_LEAVES = Leaves({}, {})
ASKING = ("board", "rack", "points", "best", "many")


def desk_of(racks, bag, rows=("....", "...."), leaves=NO_LEAVES, size=3):
    return Desk(game_of(racks, bag, rows, size), leaves)


def said_by(desk, row):
    return told_by(desk.say, row)


def asked(desk):
    return [desk.say(row) for row in ASKING]


class DeskCase(unittest.TestCase):
    def check_said(self, desk, *pairs):
        for row, answer in pairs:
            with self.subTest(row=row):
                self.assertEqual(said_by(desk, row), answer)

    def check_refused(self, desk, row, told):
        """Refused so; nothing is changed by it."""
        ahead = asked(desk)
        self.assertEqual(said_by(desk, row), told)
        self.assertEqual(asked(desk), ahead)


class TestLay(DeskCase):
    def test_answered_by_its_points(self):
        desk = desk_of(("abc", "c"), "zyx")
        answer = desk.say("lay 0 0 a 0 1 b")
        self.assertIs(type(answer), str)
        self.assertEqual(answer, "11")
        self.check_said(desk, ("board", "ab../...."), ("points", "11 0"), ("rack", "c"))

    def test_one_triple(self):
        desk = desk_of(("abc", "c"), "", rows=("ab..", "...."))
        self.check_said(desk, ("lay 0 2 c", "111"), ("board", "abc./...."))

    def test_triples_in_any_order(self):
        for row in (
            "lay 0 0 c 0 1 a 0 2 b", "lay 0 2 b 0 1 a 0 0 c", "lay 0 1 a 0 0 c 0 2 b", "lay 0 2 b 0 0 c 0 1 a",
        ):
            self.check_said(desk_of(("abc", "c"), ""), (row, "111"), ("board", "cab./...."))
        for row in ("lay 0 0 a 1 0 b", "lay 1 0 b 0 0 a"):
            self.check_said(desk_of(("abc", "c"), ""), (row, "11"), ("board", "a.../b..."))

    def test_great_letters_lay_blanks(self):
        desk = desk_of(("?b", "c"), "")
        self.check_said(desk, ("lay 0 0 A 0 1 b", "10"), ("board", "Ab../...."))

    def test_points_of_none_and_great_ones(self):
        board = Board(("..", ".."), ("..", ".."), (0, 0))
        desk = Desk(Game(board, Book(["xy"]), {}, (8, 0), 2, ("xy",), ""), NO_LEAVES)
        self.check_said(desk, ("lay 0 0 x 0 1 y", "0"))
        desk = Desk(Game(board, Book(["xy"]), {"x": 10 ** 6}, (2, 10 ** 6), 2, ("xy",), ""), NO_LEAVES)
        self.check_said(desk, ("lay 0 0 x 0 1 y", "2000000"), ("points", "2000000"))

    def test_rows_and_columns_up_to_8(self):
        rows = ("." * 9,) * 9
        desk = Desk(game_of(("abc",), "", rows, begin=(8, 8)), NO_LEAVES)
        self.check_said(desk, ("lay 8 7 a 8 8 b", "11"))
        self.assertEqual(desk.say("board"), "/".join(rows[:8] + (".......ab",)))

    def test_the_same_cell_twice_and_a_cell_beyond_the_board(self):
        desk = desk_of(("abc", "c"), "zyx")
        for row in (
            "lay 0 0 a 0 0 b", "lay 0 0 a 0 0 a", "lay 0 1 b 0 0 a 0 1 b", "lay 0 0 A 0 0 a", "lay 2 0 a", "lay 0 4 a",
            "lay 9 9 a", "lay 0 3 a 0 4 b", "lay 1 0 a 2 0 b",
        ):
            with self.subTest(row=row):
                self.check_refused(desk, row, ("NoLaying",))

    def test_seven_triples_and_eight(self):
        words = ("abcdefg", "abcdefgh")
        board = Board((".........",), (".........",), (0, 0))
        desk = Desk(Game(board, Book(words), {}, (7, 50), 7, ("abcdefg",), ""), NO_LEAVES)
        triples = [f"0 {column} {letter}" for column, letter in enumerate("abcdefgh")]
        self.check_refused(desk, "lay " + " ".join(triples), ("NoLaying",))
        self.check_said(desk, ("lay " + " ".join(triples[:7]), "50"))

    def test_each_refusal_of_a_laying(self):
        desk = desk_of(("abc", "c"), "zyx", rows=("ab..", "....", "...."))
        for row, told in (
            ("lay 0 0 a", ("Taken", 0, 0)), ("lay 0 2 c 1 1 b", ("Crooked",)), ("lay 1 0 c 1 2 b", ("Gap", 1, 1)),
            ("lay 2 2 c", ("Apart",)), ("lay 0 2 z", ("Lacking", "z")), ("lay 0 2 b", ("NoWord", "abb")),
            ("lay 0 2 C", ("Lacking", "?")), ("lay 0 2 b 0 1 a", ("Taken", 0, 1)),
        ):
            with self.subTest(row=row):
                self.check_refused(desk, row, told)


class TestOtherDeeds(DeskCase):
    def test_swap(self):
        desk = desk_of(("abc", "c"), "zyx")
        self.check_said(desk, ("swap ca", "ok"), ("rack", "c"), ("pass", "ok"), ("rack", "byz"))
        self.check_said(desk_of(("a?", "c"), "zyx"), ("swap ?", "ok"), ("pass", "ok"), ("rack", "az"))

    def test_swap_refused_by_the_game(self):
        desk = desk_of(("abc", "c"), "zy")
        for row, told in (
            ("swap z", ("Lacking", "z")), ("swap aa", ("Lacking", "a")), ("swap ?", ("Lacking", "?")),
            ("swap abc", ("TooFew",)), ("swap abz", ("Lacking", "z")), ("swap abcabcabc", ("Lacking", "a")),
        ):
            self.check_refused(desk, row, told)

    def test_pass(self):
        desk = desk_of(("abc", "c"), "zyx")
        self.check_said(desk, ("rack", "abc"), ("pass", "ok"), ("rack", "c"), ("pass", "ok"), ("rack", "abc"))
        self.check_said(desk, ("points", "0 0"), ("board", "..../...."))

    def test_back(self):
        desk = desk_of(("abc", "c"), "zyx")
        fresh = asked(desk)
        self.check_refused(desk, "back", ("NoBack",))
        self.check_said(desk, ("lay 0 0 a 0 1 b", "11"), ("swap c", "ok"), ("pass", "ok"))
        self.check_said(desk, ("back", "ok"), ("rack", "cyz"), ("back", "ok"), ("rack", "c"), ("points", "11 0"))
        self.check_said(desk, ("back", "ok"))
        self.assertEqual(asked(desk), fresh)
        self.check_refused(desk, "back", ("NoBack",))

    def test_back_where_the_game_is_over(self):
        desk = desk_of(("ab", "c"), "")
        self.check_said(desk, ("lay 0 0 a 0 1 b", "11"), ("pass", ("Over",)), ("back", "ok"), ("pass", "ok"))
        desk = desk_of(("ab",), "")
        self.check_said(desk, ("pass", "ok"), ("pass", "ok"), ("pass", ("Over",)), ("back", "ok"), ("pass", "ok"))

    def test_deeds_where_the_game_is_over(self):
        desk = desk_of(("abc",), "zyx")
        desk.go_through("pass\npass")
        for row in ("lay 0 0 a 0 1 b", "lay 0 0 a 0 0 a", "lay 9 9 z", "swap a", "swap z", "swap ????", "pass"):
            self.check_refused(desk, row, ("Over",))


class TestAsking(DeskCase):
    def test_board(self):
        self.check_said(desk_of(("a",), "", rows=("aB.",)), ("board", "aB."))
        self.check_said(desk_of(("a",), "", rows=(".",)), ("board", "."))
        self.check_said(desk_of(("a",), "", rows=("aB.", "..q", "z..")), ("board", "aB./..q/z.."))

    def test_rack(self):
        desk = desk_of(("c?a", "", "b"), "")
        self.check_said(desk, ("rack", "?ac"), ("pass", "ok"), ("rack", "-"), ("pass", "ok"), ("rack", "b"))

    def test_points(self):
        self.check_said(desk_of(("a",), ""), ("points", "0"))
        self.check_said(desk_of(("a",) * 4, ""), ("points", "0 0 0 0"))
        desk = desk_of(("ab", "c", "a", "b"), "zzzzzz")
        self.check_said(desk, ("lay 0 0 a 0 1 b", "11"), ("points", "11 0 0 0"))
        self.check_said(desk, ("lay 0 2 c", "111"), ("points", "11 111 0 0"), ("pass", "ok"), ("points", "11 111 0 0"))

    def test_best(self):
        desk = desk_of(("abc", "c"), "")
        self.check_said(desk, ("best", "lay 0 0 a 0 1 b 0 2 c"))
        desk = desk_of(("c?", "ab"), "", rows=("ab..", "...."))
        self.check_said(desk, ("best", "lay 0 2 c"))
        desk = desk_of(("?", "ab"), "", rows=("ab..", "...."))
        self.check_said(desk, ("best", "lay 0 2 A"))

    def test_best_by_the_leaves(self):
        rows = ("...",)
        self.check_said(desk_of(("abc",), "", rows), ("best", "lay 0 0 a 0 1 b 0 2 c"))
        self.check_said(desk_of(("abc",), "", rows, Leaves({"c": 101}, {})), ("best", "lay 0 0 a 0 1 b"))
        self.check_said(desk_of(("abcc",), "", rows, Leaves({"c": 60}, {"c": -20})), ("best", "lay 0 0 a 0 1 b 0 2 c"))
        self.check_said(desk_of(("abcc",), "", rows, Leaves({"c": 60}, {"c": 50})), ("best", "lay 0 0 a 0 1 b"))

    def test_best_by_worths_marks_and_bonus(self):
        game = game_of(("abb",), "", rows=("...",), bonus=(3, 0))
        self.check_said(Desk(game, NO_LEAVES), ("best", "lay 0 0 b 0 1 a 0 2 b"))
        game = game_of(("aab",), "", rows=("...",), marks=("3..",), bonus=(3, 0))
        self.check_said(Desk(game, NO_LEAVES), ("best", "lay 0 0 b 0 1 a"))
        game = game_of(("aab",), "", rows=("...",), marks=("3..",), bonus=(3, 20))
        self.check_said(Desk(game, NO_LEAVES), ("best", "lay 0 0 a 0 1 b 0 2 a"))

    def test_best_of_down_layings_has_its_triples_rising(self):
        self.check_said(desk_of(("abc",), "", rows=(".", ".", ".")), ("best", "lay 0 0 a 1 0 b 2 0 c"))

    def test_best_said_as_a_row_is_answered_by_its_points(self):
        leaves = Leaves({"c": 500}, {})
        desk = desk_of(("abc", "c"), "", leaves=leaves)
        row = desk.say("best")
        self.assertEqual(row, "lay 0 0 a 0 1 b")
        self.check_said(desk, (row, "11"), ("points", "11 0"), ("best", "lay 0 2 c"), ("lay 0 2 c", "111"))

    def test_many(self):
        self.check_said(desk_of(("ab",), "", rows=("..",)), ("many", "2"))
        self.check_said(desk_of(("ab",), "", rows=("..", "..")), ("many", "4"))
        self.check_said(desk_of(("c", "z"), "", rows=("ab..",)), ("many", "1"), ("pass", "ok"), ("many", "0"))

    def test_where_there_are_no_layings(self):
        for racks, rows in ((("",), ("..",)), (("zzz",), ("..",)), (("ab",), ("ab",)), (("ab",), (".",))):
            self.check_said(desk_of(racks, "", rows), ("best", "none"), ("many", "0"))

    def test_where_the_game_is_over(self):
        desk = desk_of(("ab", "c"), "")
        self.check_said(desk, ("lay 0 0 a 0 1 b", "11"), ("pass", ("Over",)))
        self.check_said(desk, ("rack", "c"), ("best", "lay 0 2 c"), ("many", "1"), ("points", "11 0"))
        self.check_said(desk, ("board", "ab../...."))
        desk = desk_of(("ab",), "", rows=("..",))
        self.check_said(desk, ("pass", "ok"), ("pass", "ok"), ("pass", ("Over",)), ("rack", "ab"))
        self.check_said(desk, ("best", "lay 0 0 a 0 1 b"), ("many", "2"))
        desk = desk_of(("ab",), "")
        self.check_said(desk, ("lay 0 0 a 0 1 b", "11"), ("rack", "-"), ("best", "none"), ("many", "0"))

    def test_asking_changes_nothing(self):
        desk = desk_of(("abc", "c"), "zyx")
        desk.say("lay 0 0 a 0 1 b")
        first = asked(desk)
        for _ in range(3):
            self.assertEqual(asked(desk), first)
        self.check_said(desk, ("back", "ok"), ("back", ("NoBack",)))

    def test_asking_between_passes_does_not_matter(self):
        desk = desk_of(("abc", "c"), "zyx")
        for _ in range(4):
            asked(desk)
            self.assertEqual(desk.say("pass"), "ok")
            asked(desk)
        self.check_said(desk, ("pass", ("Over",)))

    def test_the_rack_whose_turn_it_is(self):
        desk = desk_of(("zzz", "ab"), "", rows=("..",))
        self.check_said(desk, ("best", "none"), ("many", "0"), ("pass", "ok"))
        self.check_said(desk, ("best", "lay 0 0 a 0 1 b"), ("many", "2"))


class TestTheDeskKeeps(DeskCase):
    def test_a_twin_of_the_game(self):
        game = game_of(("abc", "c"), "zyx")
        desk, other = Desk(game, NO_LEAVES), Desk(game, NO_LEAVES)
        desk.say("lay 0 0 a 0 1 b")
        self.assertEqual(game.board_now().rows, ("....", "...."))
        self.assertEqual(other.say("board"), "..../....")
        game.do(("pass",))
        game.do(("swap", "c"))
        self.check_said(desk, ("rack", "c"), ("points", "11 0"), ("back", "ok"), ("back", ("NoBack",)))
        self.check_said(other, ("rack", "abc"), ("back", ("NoBack",)))

    def test_a_game_with_deeds_that_can_be_taken_back(self):
        game = game_of(("abc", "c"), "zyx")
        game.do(("lay", ((0, 0, "a"), (0, 1, "b"))))
        desk = Desk(game, NO_LEAVES)
        self.check_said(desk, ("board", "ab../...."), ("back", "ok"), ("board", "..../...."), ("back", ("NoBack",)))
        self.assertEqual(game.board_now().rows, ("ab..", "...."))
        self.assertEqual(game.points_now(), (11, 0))

    def test_a_game_that_is_over(self):
        game = game_of(("ab", "c"), "")
        game.do(("lay", ((0, 0, "a"), (0, 1, "b"))))
        desk = Desk(game, NO_LEAVES)
        self.check_said(desk, ("pass", ("Over",)), ("back", "ok"), ("pass", "ok"))
        self.assertTrue(game.is_over())

    def test_what_the_leaves_were_made_of(self):
        singles = {"c": 101}
        desk = desk_of(("abc",), "", ("...",), Leaves(singles, {}))
        singles["c"] = 0
        self.check_said(desk, ("best", "lay 0 0 a 0 1 b"))


def no_rows():
    """Rows that are none, whatever the game; each sort that 28 leaves."""
    lays = (
        "lay", "lay ", "lay  ", "lay 0", "lay 0 0", "lay 0 0 a 0", "lay 0 0 a 0 1", "lay 0 0 a b", "lay 0 0a",
        "lay 00 a", "lay 00a", "lay 0,0,a", "lay 0 0 a,0 1 b", "lay 10 0 a", "lay 0 10 a", "lay 00 0 a", "lay 0 00 a",
        "lay 01 0 a", "lay +0 0 a", "lay 0 +0 a", "lay -0 0 a", "lay -1 0 a", "lay 0 -1 a", "lay a 0 a", "lay 0 a a",
        "lay a 0 0", "lay 0 0 0", "lay 0 0 ab", "lay 0 0 ?", "lay 0 0 .", "lay 0 0 +", "lay 0 0 @", "lay 0 0 [",
        "lay 0 0 `", "lay 0 0 {", "lay 0 0 ", "lay 0  a", "lay  0 0 a", "lay 0  0 a", "lay 0 0  a", "lay 0 0 a ",
        "lay 0 0 a  0 1 b", " lay 0 0 a", "lay 0 0 a\n", "lay 0 0 a\t", "lay\t0 0 a", "lay 0\t0 a", "lay 0 0\ta",
        "lay 0 0 a\n0 1 b", "lay / 0 a", "lay : 0 a", "lay 0 / a", "lay 0 : a", "lay 0 0 a x", "lay 0 0 a x x x",
        "lay 0 0 a 0 1 ?", "lay 0 0 a 0 11 b", "lay 0.0 0 a", "lay 0 0 a 0 1 b ok", "lay lay 0 0 a", "Lay 0 0 a",
        "LAY 0 0 a", "laY 0 0 a", "lay: 0 0 a", "lays 0 0 a", "la 0 0 a", "0 0 a", "lay none", "lay 0 0 a 0 1 b;",
        "lay 0 0 a\n\n",
    )
    swaps = (
        "swap", "swap ", "swap  a", "swap a ", " swap a", "swap a b", "swap a  b", "swap A", "swap aB", "swap 1",
        "swap -", "swap a,b", "swap a.", "swap +", "swap a\n", "swap\ta", "swap a\t", "swap \n", "swap ab\nc",
        "Swap a", "SWAP a", "swaps a", "swa a", "swap swap a", "swap ok a", "swap @", "swap `", "swap {", "swapa",
        "swap ?? a", "swap \t",
    )
    alone = ("pass", "back", "board", "rack", "points", "best", "many")
    rest = ["", " ", "  ", "\n", "\t", "?", "-", ".", "/", "ok", "none", "a", "0", "quit", "turn", "bag", "over"]
    for word in alone:
        rest += [word + " ", " " + word, word + "\n", "\n" + word, word + "\t", "\t" + word, word + " a", word + " 0"]
        rest += [word.upper(), word.title(), word[:-1], word + "s", word + " " + word, word + "  ", word + "\n\n"]
        rest += [word + "\n" + word, word[0] + " " + word[1:], word[:-1] + word[-1].upper(), word + ".", "-" + word]
    return lays + swaps + tuple(rest)


class TestNoRow(DeskCase):
    def test_any_other_row(self):
        fresh = desk_of(("abc", "c"), "zyx")
        played = desk_of(("abc", "c"), "zyx", rows=("ab..", "...."))
        played.go_through("lay 0 2 c\npass\nswap a")
        over = desk_of(("ab", "c"), "")
        over.go_through("lay 0 0 a 0 1 b")
        for desk in (fresh, played, over):
            for row in no_rows():
                with self.subTest(row=row):
                    self.check_refused(desk, row, ("NoRow",))
        self.check_refused(fresh, "back", ("NoBack",))
        self.check_refused(over, "pass", ("Over",))

    def test_each_sign_by_itself_and_behind_swap(self):
        desk = desk_of(("abc", "c"), "zyx")
        for sign in string.printable:
            if sign in "\r\x0b\x0c":
                continue
            with self.subTest(sign=sign):
                self.assertEqual(said_by(desk, sign), ("NoRow",))
                is_tile = sign == "?" or sign in string.ascii_lowercase
                if sign not in "abc":
                    self.assertEqual(said_by(desk, "swap " + sign), ("Lacking", sign) if is_tile else ("NoRow",))
                told = ("NoRow",)
                if sign in string.digits:
                    told = ("Apart",) if sign in "123" else ("NoWord", "a") if sign == "0" else ("NoLaying",)
                self.assertEqual(said_by(desk, f"lay 0 {sign} a"), told)
                told = told if sign in "0" or told[0] == "NoRow" else ("Apart",) if sign == "1" else ("NoLaying",)
                self.assertEqual(said_by(desk, f"lay {sign} 0 a"), told)

    def test_no_row_goes_ahead_of_what_the_game_refuses(self):
        desk = desk_of(("ab",), "")
        desk.go_through("lay 0 0 a 0 1 b")
        self.check_refused(desk, "lay 0 0 a 0", ("NoRow",))
        self.check_refused(desk, "lay 0 0 a", ("Over",))
        self.check_refused(desk, "swap Z", ("NoRow",))
        self.check_refused(desk, "swap z", ("Over",))

    def test_the_refusals_are_those_of_the_errors_module(self):
        desk = desk_of(("abc",), "")
        for row, kind in (("", NoRow), ("back", NoBack), ("lay 9 9 a", NoLaying)):
            with self.assertRaises(kind):
                desk.say(row)
        desk.go_through("pass\npass")
        with self.assertRaises(Over):
            desk.say("pass")


class TestGoThrough(DeskCase):
    def check_stopped(self, desk, text, told):
        self.assertEqual(told_by(desk.go_through, text), told)

    def test_one_row(self):
        desk = desk_of(("abc", "c"), "zyx")
        answer = desk.go_through("lay 0 0 a 0 1 b")
        self.assertIs(type(answer), str)
        self.assertEqual(answer, "11")
        self.assertEqual(desk.go_through("board"), "ab../....")

    def test_several_rows(self):
        desk = desk_of(("abc", "c"), "zyx")
        rows = "rack\nlay 0 0 a 0 1 b\nboard\npoints\nrack\nbest\nmany\nswap c\npass\nback\nback\nrack"
        self.assertEqual(desk.go_through(rows), "abc\n11\nab../....\n11 0\nc\nlay 0 2 c\n1\nok\nok\nok\nok\nc")

    def test_a_refused_row_in_the_middle(self):
        for refused, told in (
            ("jump", ("NoRow",)), ("", ("NoRow",)), ("lay 0 0 c", ("Taken", 0, 0)), ("swap q", ("Lacking", "q")),
            ("pass ", ("NoRow",)), ("lay 0 2 c 0 2 c", ("NoLaying",)),
        ):
            desk = desk_of(("abc", "c"), "zyx")
            with self.subTest(refused=refused):
                self.check_stopped(desk, "lay 0 0 a 0 1 b\npass\n" + refused + "\nswap c\npass", told)
                self.check_said(desk, ("board", "ab../...."), ("rack", "cyz"), ("points", "11 0"))
                self.check_said(desk, ("back", "ok"), ("back", "ok"), ("back", ("NoBack",)))

    def test_a_refused_row_at_first(self):
        desk = desk_of(("abc", "c"), "zyx")
        ahead = asked(desk)
        self.check_stopped(desk, "back\npass", ("NoBack",))
        self.check_stopped(desk, "\npass", ("NoRow",))
        self.assertEqual(asked(desk), ahead)

    def test_the_text_without_signs(self):
        desk = desk_of(("abc", "c"), "zyx")
        self.check_stopped(desk, "", ("NoRow",))
        self.check_said(desk, ("back", ("NoBack",)))

    def test_a_line_end_at_its_end(self):
        desk = desk_of(("abc", "c"), "zyx")
        self.check_stopped(desk, "pass\npass\n", ("NoRow",))
        self.check_said(desk, ("back", "ok"), ("back", "ok"), ("back", ("NoBack",)))

    def test_line_ends_alone_and_other_blanks(self):
        desk = desk_of(("abc", "c"), "zyx")
        for text in ("\n", "\n\n", " ", "\t", "pass \n", " pass"):
            self.check_stopped(desk, text, ("NoRow",))
        self.check_said(desk, ("back", ("NoBack",)))
        self.check_stopped(desk, "pass\n\npass", ("NoRow",))
        self.check_said(desk, ("back", "ok"), ("back", ("NoBack",)))

    def test_it_stops_where_the_game_is_over(self):
        desk = desk_of(("abc",), "zyx")
        self.check_stopped(desk, "pass\npass\nrack\npass\nback", ("Over",))
        self.check_stopped(desk, "rack\nback\npass\nmany", "abc\nok\nok\n" + desk.say("many"))

    def test_a_game_to_its_end(self):
        desk = desk_of(("abc", "ba"), "")
        self.assertEqual(
            desk.go_through("best\nlay 0 0 a 0 1 b 0 2 c\npoints\nrack\nmany\nboard"),
            "lay 0 0 a 0 1 b 0 2 c\n111\n111 0\nab\n" + desk.say("many") + "\nabc./....",
        )
        self.check_stopped(desk, "pass", ("Over",))


class TestByChance(DeskCase):
    def test_a_desk_answers_as_its_game_does(self):
        source = random.Random(27)
        answers = {}
        for _ in range(60):
            tiles = source.sample("aaaaaabbbbbbbccc??", 18)
            racks = tuple("".join(tiles[at * 3 : at * 3 + 3]) for at in range(source.randint(1, 4)))
            game = game_of(racks, "".join(tiles[12:]), rows=("....",) * 3, bonus=(2, 5), marks=("2b.3", "..c.", "4..d"))
            singles = {"a": source.randint(-9, 9), "?": source.randint(-9, 30)}
            leaves = Leaves(singles, {"a": source.randint(-9, 9)})
            desk = Desk(game, leaves)
            for _ in range(14):
                row, answer = self.step(source, game, leaves)
                with self.subTest(row=row):
                    self.assertEqual(said_by(desk, row), answer)
                answers[row.split(" ")[0]] = answers.get(row.split(" ")[0], 0) + 1
                self.assertEqual(desk.say("board"), "/".join(game.board_now().rows))
                self.assertEqual(desk.say("rack"), game.racks_now()[game.turn()] or "-")
                self.assertEqual(desk.say("points"), " ".join(str(points) for points in game.points_now()))
        self.assertEqual(set(answers), {"lay", "swap", "pass", "back", "best", "many"})

    def step(self, source, game, leaves):
        """A row, and what the game answers; what is to be done by it is done to the game."""
        board, rack, book = game.board_now(), game.racks_now()[game.turn()], Book(WORDS)
        chosen = source.choice(("lay", "lay", "lay", "swap", "pass", "back", "best", "many"))
        if chosen == "best":
            best = best_laying(board, book, rack, WORTHS, (2, 5), leaves)
            return "best", "none" if best is None else lay_row(best[1])
        if chosen == "many":
            return "many", str(len(all_layings(board, book, rack)))
        try:
            if chosen == "back":
                row = "back"
                game.back()
            elif chosen == "pass":
                row = "pass"
                game.do(("pass",))
            elif chosen == "swap":
                tiles = "".join(source.sample(rack + "a", source.randint(1, len(rack) + 1)))
                row = "swap " + tiles
                game.do(("swap", tiles))
            else:
                layings = all_layings(board, book, rack) or (((0, 0, "a"),),)
                laying = source.choice(layings)
                row = lay_row(source.sample(laying, len(laying)))
                return row, str(game.do(("lay", laying)))
        except RackError as refusal:
            return row, fields(refusal)
        return row, "ok"


def lay_row(triples):
    return "lay " + " ".join(f"{row} {column} {sign}" for row, column, sign in triples)


class TestWhatIsHandedIn(DeskCase):
    def test_nothing_is_changed(self):
        board, book, worths = Board(("....",), ("2..b",), (0, 0)), Book(WORDS), dict(WORTHS)
        kept = (parts(board), book.words(), book.machine().table(), list(worths.items()))
        singles, doubles = {"a": 1}, {"b": 2}
        game = Game(board, book, worths, NO_BONUS, 3, ("abc", "cba"), "abab")
        Desk(game, Leaves(singles, doubles)).go_through("best\nlay 0 0 a 0 1 b\nmany\nswap c\nback\npass\nboard\nbest")
        self.assertEqual((parts(board), book.words(), book.machine().table(), list(worths.items())), kept)
        self.assertEqual((singles, doubles), ({"a": 1}, {"b": 2}))
        self.assertEqual((game.racks_now(), game.bag_now(), game.turn()), (("abc", "abc"), "abab", 0))


if __name__ == "__main__":
    unittest.main()
