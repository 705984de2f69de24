"""What a game is made of [23], deeds [24], when it is over, and back [25], twins [26]; what 2 and 3 say of games."""

import random
import unittest

from letterrack.boards import Board
from letterrack.books import Book
from letterrack.errors import NoBack, NoDeed, NoLaying, Over
from letterrack.games import Game
from letterrack.search import all_layings
from letterrack.signs import turned_laying
from tests.helper import NO_BONUS, WORDS, WORTHS, broken, game_of, laying_of, no_marks, parts, plain, plain_points
from tests.helper import told_by

AB = ((0, 0, "a"), (0, 1, "b"))
PASS = ("pass",)


def stand_of(game):
    return (
        parts(game.board_now()), game.racks_now(), game.bag_now(), game.points_now(), game.turn(), game.is_over(),
    )


def done_by(game, deed):
    return told_by(game.do, deed)


def back_by(game):
    return told_by(game.back)


class GameCase(unittest.TestCase):
    def check_done(self, game, deed, points):
        """Done and taken back all is as it was; then done for good. Its points are added to its rack's alone."""
        ahead, turn = stand_of(game), game.turn()
        self.assertEqual(done_by(game, deed), points)
        behind = stand_of(game)
        self.assertIs(type(points), int)
        sums = list(ahead[3])
        sums[turn] += points
        self.assertEqual(game.points_now(), tuple(sums))
        self.assertEqual(game.turn(), (turn + 1) % len(sums))
        self.assertIsNone(game.back())
        self.assertEqual(stand_of(game), ahead)
        self.assertEqual(done_by(game, deed), points)
        self.assertEqual(stand_of(game), behind)

    def check_refused(self, game, deed, told):
        """Refused so, by the game and its twin; nothing is changed, and nothing new is there to take back."""
        ahead, beyond = stand_of(game), stands_back(game)
        self.assertEqual(done_by(game.twin(), deed), told)
        self.assertEqual(done_by(game, deed), told)
        self.assertEqual(stand_of(game), ahead)
        self.assertEqual(stands_back(game), beyond)


def stands_back(game):
    """How a game stood ahead of each of its deeds, the last one first; asked of a twin."""
    other, told = game.twin(), []
    while True:
        if back_by(other) is not None:
            return told
        told.append(stand_of(other))


class TestMaking(GameCase):
    def test_a_fresh_game(self):
        game = game_of(("ca", "b?a"), "cba", size=5)
        self.assertEqual(
            stand_of(game),
            ((("....", "...."), ("....", "...."), (0, 0)), ("ac", "?ab"), "cba", (0, 0), 0, False),
        )

    def test_racks_are_told_sorted_and_not_filled_at_first(self):
        game = game_of(("cba", "", "z?a?", "b"), "abc", size=7)
        self.assertEqual(game.racks_now(), ("abc", "", "??az", "b"))
        self.assertEqual(game.bag_now(), "abc")

    def test_the_bag_keeps_its_order(self):
        self.assertEqual(game_of(("a",), "zb?ac").bag_now(), "zb?ac")
        self.assertEqual(game_of(("a",), "").bag_now(), "")

    def test_one_rack_to_four_take_turns(self):
        for many in range(1, 5):
            game = game_of(("ab",) * many, "ccccc")
            self.assertEqual(game.points_now(), (0,) * many)
            turns = []
            for _ in range(9):
                turns.append(game.turn())
                game.do(("swap", game.racks_now()[game.turn()][0]))
            self.assertEqual(turns, [at % many for at in range(9)])

    def test_a_board_with_something_on_it(self):
        rows, marks = ("xq.", "..Z"), ("2b.", "...")
        game = Game(Board(rows, marks, (1, 2)), Book([]), {}, (0, 0), 7, ("",), "")
        self.assertEqual(parts(game.board_now()), (rows, marks, (1, 2)))
        self.assertIsInstance(game.board_now(), Board)
        self.assertFalse(game.is_over())

    def test_the_kinds(self):
        game = game_of(("ab", "b"), "c")
        self.assertIs(type(game.racks_now()), tuple)
        self.assertEqual([type(rack) for rack in game.racks_now()], [str, str])
        self.assertIs(type(game.bag_now()), str)
        self.assertIs(type(game.points_now()), tuple)
        self.assertEqual([type(points) for points in game.points_now()], [int, int])
        self.assertIs(type(game.turn()), int)
        self.assertIs(game.is_over(), False)
        self.assertIs(type(game.do(("lay", AB))), int)
        self.assertIs(type(game.do(PASS)), int)

    def test_the_book_changed_behind_the_making(self):
        book = Book(WORDS)
        game = Game(plain(("....",)), book, WORTHS, NO_BONUS, 3, ("abc", "abc"), "")
        book.take_out("ab")
        book.put_in("ac")
        self.check_refused(game, ("lay", ((0, 0, "a"), (0, 1, "c"))), ("NoWord", "ac"))
        self.check_done(game, ("lay", AB), 11)
        self.assertFalse(book.has("ab"))

    def test_the_worths_changed_behind_the_making(self):
        worths = dict(WORTHS)
        game = Game(plain(("....",)), Book(WORDS), worths, NO_BONUS, 3, ("abc",), "")
        other = game.twin()
        worths["a"] = 500
        worths.pop("b")
        self.check_done(game, ("lay", AB), 11)
        self.check_done(other, ("lay", AB), 11)
        self.assertEqual(worths, {"a": 500, "c": 100})

    def test_what_is_handed_in_stays_as_it_was(self):
        board, book, worths = plain(("....",)), Book(WORDS), dict(WORTHS)
        kept = (parts(board), book.words(), book.machine().table(), list(worths.items()))
        game = Game(board, book, worths, (2, 5), 3, ("cba", "ab"), "bbcaa")
        for deed in (("lay", AB), ("swap", "b"), ("lay", ((0, 2, "c"),)), PASS, PASS, PASS, PASS):
            game.do(deed)
        self.assertTrue(game.is_over())
        game.back()
        self.assertEqual((parts(board), book.words(), book.machine().table(), list(worths.items())), kept)

    def test_what_was_told_is_changed_by_nothing_later(self):
        game = game_of(("abc", "abc"), "cba")
        told = [game.board_now(), game.racks_now(), game.bag_now(), game.points_now()]
        board = parts(told[0])
        game.do(("lay", AB))
        game.do(("swap", "a"))
        game.back()
        self.assertEqual(parts(told[0]), board)
        self.assertEqual(told[1:], [("abc", "abc"), "cba", (0, 0)])


class TestLay(GameCase):
    def test_the_laying_is_laid_and_the_rack_draws(self):
        game = game_of(("bca", "bb"), "zyx")
        self.check_done(game, ("lay", AB), 11)
        self.assertEqual(game.board_now().rows, ("ab..", "...."))
        self.assertEqual(game.racks_now(), ("cyz", "bb"))
        self.assertEqual(game.bag_now(), "x")
        self.assertEqual(game.points_now(), (11, 0))
        self.assertEqual(game.turn(), 1)

    def test_marks_and_begin_stay(self):
        marks = ("2.b.", "..3d")
        game = Game(Board(("....", "...."), marks, (1, 1)), Book(WORDS), WORTHS, NO_BONUS, 3, ("abc",), "a")
        game.do(("lay", ((1, 0, "a"), (1, 1, "b"))))
        self.assertEqual(parts(game.board_now()), (("....", "ab.."), marks, (1, 1)))

    def test_the_last_draw_empties_the_bag(self):
        game = game_of(("abc", "a"), "zy")
        self.check_done(game, ("lay", AB), 11)
        self.assertEqual((game.racks_now(), game.bag_now()), (("cyz", "a"), ""))
        self.assertFalse(game.is_over())

    def test_a_bag_that_has_fewer_than_are_wanted(self):
        game = game_of(("abc", "a"), "z")
        self.check_done(game, ("lay", AB), 11)
        self.assertEqual((game.racks_now(), game.bag_now()), (("cz", "a"), ""))
        game = game_of(("abc", "a"), "")
        self.check_done(game, ("lay", AB), 11)
        self.assertEqual((game.racks_now(), game.bag_now()), (("c", "a"), ""))

    def test_a_rack_handed_in_with_fewer_than_size_tiles(self):
        game = game_of(("ab", ""), "zyxwvut", size=5)
        self.check_done(game, ("lay", AB), 11)
        self.assertEqual((game.racks_now(), game.bag_now()), (("vwxyz", ""), "ut"))

    def test_a_rack_that_has_more_than_size_draws_none(self):
        game = game_of(("abcc",), "zyx", size=1)
        self.check_done(game, ("lay", AB), 11)
        self.assertEqual((game.racks_now(), game.bag_now()), (("cc",), "zyx"))

    def test_sizes_from_1_to_7(self):
        for size in range(1, 8):
            game = game_of(("b" + "c" * (size - 1),), "zzyyxxww", rows=("a...", "...."), size=size)
            self.check_done(game, ("lay", ((0, 1, "b"),)), 11)
            self.assertEqual((game.racks_now(), game.bag_now()), (("c" * (size - 1) + "z",), "zyyxxww"))

    def test_a_blank_is_taken_by_a_great_letter(self):
        game = game_of(("?ba", "b"), "")
        self.check_done(game, ("lay", ((0, 0, "A"), (0, 1, "b"))), 10)
        self.assertEqual(game.board_now().rows, ("Ab..", "...."))
        self.assertEqual(game.racks_now(), ("a", "b"))

    def test_points_with_marks_and_bonus(self):
        game = game_of(("abc", "ba"), "ab", marks=("2c..", "...."), bonus=(2, 50))
        self.check_done(game, ("lay", AB), (2 + 10) * 3 + 50)
        # Marks count for the laying that covers them alone.
        self.check_done(game, ("lay", ((1, 0, "b"), (1, 1, "a"))), 11 + 11 + 11 + 50)
        self.assertEqual(game.points_now(), (86, 83))

    def test_points_are_added_up_rack_by_rack(self):
        game = game_of(("ab", "c", "a"), "aaaaaaa", size=2)
        self.check_done(game, ("lay", AB), 11)
        self.check_done(game, ("lay", ((0, 2, "c"),)), 111)
        self.check_done(game, ("lay", ((1, 0, "a"),)), 2)
        self.assertEqual(game.points_now(), (11, 111, 2))
        self.check_done(game, PASS, 0)
        self.check_done(game, ("swap", "a"), 0)
        self.check_done(game, ("lay", ((1, 1, "a"),)), 2 + 11)
        self.assertEqual(game.points_now(), (11, 111, 15))

    def test_the_rack_whose_turn_it_is(self):
        game = game_of(("ccc", "ab"), "", size=3)
        self.check_refused(game, ("lay", AB), ("Lacking", "a"))
        self.check_done(game, PASS, 0)
        self.check_done(game, ("lay", AB), 11)
        self.assertEqual(game.points_now(), (0, 11))

    def test_each_refusal_of_a_laying(self):
        game = game_of(("abc", "b"), "ab", rows=("ab..", "....", "...."))
        for laying, told in (
            ((), ("NoLaying",)), (((0, 0, "a"),), ("Taken", 0, 0)),
            (((0, 2, "c"), (1, 1, "b")), ("Crooked",)), (((1, 0, "c"), (1, 2, "b")), ("Gap", 1, 1)),
            (((2, 2, "c"),), ("Apart",)), (((0, 2, "b"), (0, 3, "b")), ("Lacking", "b")),
            (((0, 2, "C"),), ("Lacking", "?")), (((0, 2, "b"),), ("NoWord", "abb")),
            (((1, 0, "b"), (1, 1, "c")), ("NoWord", "bc")),
        ):
            with self.subTest(laying=laying):
                self.check_refused(game, ("lay", laying), told)
        self.check_done(game, ("lay", ((0, 2, "c"),)), 111)
        self.check_refused(game, ("lay", ((0, 2, "b"),)), ("Taken", 0, 2))

    def test_what_stands_where_a_laying_stands(self):
        game = game_of(("abc", "b"), "ab")
        for thing in (
            None, True, False, 0, 1, -5, 10 ** 5000, "", "lay", "00a", "?", (), (None,), (0,), ((),), (True,), ("a",),
            ((0, 0),), ((0, 0, "a", "b"),), ((0, 0, "?"),), ((0, 0, "."),), ((0, 0, ""),), ((0, 0, 0),),
            ((True, 0, "a"), (1, 1, "b")), ((0, False, "a"), (0, 1, "b")), ((0, 4, "a"),), ((2, 0, "a"),),
            ((-1, 0, "a"),), ((0, 1, "b"), (0, 0, "a")), ((0, 0, "a"), (0, 0, "b")), (AB,), ("lay", AB), ("pass",),
            tuple((0, column, "a") for column in range(8)),
        ):
            with self.subTest(thing=str(thing)[:40] if not isinstance(thing, int) else ""):
                self.check_refused(game, ("lay", thing), ("NoLaying",))


class TestSwap(GameCase):
    def test_the_tiles_are_drawn_then_put_behind_the_bag(self):
        game = game_of(("abc", "a"), "zyxw")
        self.check_done(game, ("swap", "ca"), 0)
        self.assertEqual((game.racks_now(), game.bag_now()), (("byz", "a"), "xwac"))
        self.assertEqual(game.board_now().rows, ("....", "...."))
        self.assertEqual(game.turn(), 1)

    def test_the_tiles_are_put_behind_it_sorted(self):
        game = game_of(("cb?a",), "zyxwv", size=4)
        self.check_done(game, ("swap", "c?ba"), 0)
        self.assertEqual((game.racks_now(), game.bag_now()), (("wxyz",), "v?abc"))

    def test_as_many_as_the_bag_has_and_one_more(self):
        game = game_of(("abc", "a"), "zy")
        self.check_done(game, ("swap", "ba"), 0)
        self.assertEqual((game.racks_now(), game.bag_now()), (("cyz", "a"), "ab"))
        game = game_of(("abc", "a"), "zy")
        self.check_refused(game, ("swap", "abc"), ("TooFew",))
        game = game_of(("abc", "a"), "")
        self.check_refused(game, ("swap", "a"), ("TooFew",))

    def test_a_swapped_tile_is_not_drawn_again_by_the_same_swap(self):
        game = game_of(("ab",), "z")
        self.check_refused(game, ("swap", "ab"), ("TooFew",))
        self.check_done(game, ("swap", "a"), 0)
        self.assertEqual((game.racks_now(), game.bag_now()), (("bz",), "a"))

    def test_a_tile_that_lacks(self):
        game = game_of(("aab", "c"), "zyxwvut")
        for tiles, tile in (
            ("c", "c"), ("abb", "b"), ("aaa", "a"), ("?", "?"), ("zc", "z"), ("cz", "c"), ("aabz", "z"), ("a?z", "?"),
            ("aabaab", "a"),
        ):
            with self.subTest(tiles=tiles):
                self.check_refused(game, ("swap", tiles), ("Lacking", tile))

    def test_lacking_goes_ahead_of_too_few(self):
        for bag in ("", "z"):
            game = game_of(("aab", "c"), bag)
            self.check_refused(game, ("swap", "aac"), ("Lacking", "c"))
            self.check_refused(game, ("swap", "?b"), ("Lacking", "?"))
            self.check_refused(game, ("swap", "aab"), ("TooFew",))

    def test_blanks(self):
        game = game_of(("??a", "c"), "zyx")
        self.check_done(game, ("swap", "??"), 0)
        self.assertEqual((game.racks_now(), game.bag_now()), (("ayz", "c"), "x??"))
        game = game_of(("?ab", "c"), "zyx")
        self.check_refused(game, ("swap", "??"), ("Lacking", "?"))

    def test_a_blank_stands_for_no_other_tile(self):
        game = game_of(("?a", "c"), "zyx")
        self.check_refused(game, ("swap", "b"), ("Lacking", "b"))

    def test_where_the_rack_has_fewer_than_size_tiles(self):
        game = game_of(("ab", "c"), "zyxwv", size=7)
        self.check_done(game, ("swap", "a"), 0)
        self.assertEqual((game.racks_now(), game.bag_now()), (("bz", "c"), "yxwva"))

    def test_where_the_rack_has_more_than_size_tiles(self):
        game = game_of(("abc",), "zyxwv", size=1)
        self.check_done(game, ("swap", "ab"), 0)
        self.assertEqual((game.racks_now(), game.bag_now()), (("cyz",), "xwvab"))

    def test_the_rack_whose_turn_it_is(self):
        game = game_of(("a", "b"), "zyx")
        self.check_refused(game, ("swap", "b"), ("Lacking", "b"))
        self.check_done(game, PASS, 0)
        self.check_refused(game, ("swap", "a"), ("Lacking", "a"))
        self.check_done(game, ("swap", "b"), 0)
        self.assertEqual((game.racks_now(), game.bag_now()), (("a", "z"), "yxb"))

    def test_a_rack_without_tiles(self):
        self.check_refused(game_of(("", "b"), "zyx"), ("swap", "a"), ("Lacking", "a"))


NO_DEEDS = (
    None, True, False, 0, 1, 10 ** 5000, "", "pass", "lay", "swap", "back", "pass,", (), (None,), (0,), (True,), ("",),
    ((),), (("pass",),), ("Pass",), ("PASS",), ("pas",), ("pass ",), (" pass",), ("pass\n",), ("back",), ("lay",),
    ("swap",), ("board",), ("pass", "pass"), ("pass", None), ("pass", ()), ("pass", ""), ("pass", AB), ("lay", AB, AB),
    ("lay", AB, None), ("lay",) + AB, ("Lay", AB), ("lay ", AB), (AB, "lay"), (AB,), AB, (None, AB), (True, AB),
    (("lay",), AB), ("laying", AB), ("", AB), (0, AB), ("swap", "a", "b"), ("swap", "a", None), ("Swap", "a"),
    ("swap ", "a"), ("a", "swap"), ("swap", ""), ("swap", None), ("swap", True), ("swap", False), ("swap", 0),
    ("swap", 1), ("swap", ()), ("swap", ("a",)), ("swap", ("a", "b")), ("swap", AB), ("swap", "A"), ("swap", "aB"),
    ("swap", "a b"), ("swap", " a"), ("swap", "a "), ("swap", "a\n"), ("swap", "a."), ("swap", "1"), ("swap", "+"),
    ("swap", "-"), ("swap", "a,b"), ("swap", "@"), ("swap", "`"), ("swap", "{"), ("swap", "\t"), ("swap", ">"),
    (("swap", "a"),), ("swap", ("swap", "a")), ("pass", "a"), ("back", "a"),
)


class TestNoDeed(GameCase):
    def test_whatever_is_none(self):
        fresh = game_of(("abc", "b"), "abab")
        played = game_of(("abc", "b"), "abab")
        played.do(("lay", AB))
        over = game_of(("abc",), "abab")
        over.do(PASS)
        over.do(PASS)
        self.assertTrue(over.is_over())
        for game in (fresh, played, over):
            for place, thing in enumerate(NO_DEEDS):
                with self.subTest(place=place):
                    self.check_refused(game, thing, ("NoDeed",))

    def test_the_refusal_can_be_shown(self):
        with self.assertRaises(NoDeed) as told:
            game_of(("abc",), "").do(("swap", 10 ** 5000))
        self.assertIsInstance(str(told.exception), str)


class TestPass(GameCase):
    def test_a_pass_changes_the_turn_alone(self):
        game = game_of(("abc", "b", "c"), "zyx")
        ahead = stand_of(game)
        self.check_done(game, PASS, 0)
        self.assertEqual(stand_of(game)[:4], ahead[:4])
        self.assertEqual(game.turn(), 1)


EVERY_DEED = (
    ("lay", AB), ("lay", None), ("lay", ()), ("lay", ((0, 0, "z"),)), ("swap", "a"), ("swap", "z"), ("swap", "aaaaaaa"),
    PASS,
)


class TestOver(GameCase):
    def check_over(self, game):
        self.assertIs(game.is_over(), True)
        for deed in EVERY_DEED:
            self.check_refused(game, deed, ("Over",))
        self.check_refused(game, ("swap", ""), ("NoDeed",))
        self.check_refused(game, ("lay",), ("NoDeed",))

    def test_by_a_laying_that_empties_bag_and_rack(self):
        game = game_of(("ab", "c"), "", size=3)
        self.check_done(game, ("lay", AB), 11)
        self.check_over(game)
        self.assertEqual(game.turn(), 1)
        self.assertEqual(game.racks_now(), ("", "c"))

    def test_by_the_last_rack(self):
        game = game_of(("c", "ab"), "")
        self.check_done(game, PASS, 0)
        self.check_done(game, ("lay", AB), 11)
        self.check_over(game)
        self.assertEqual(game.turn(), 0)

    def test_by_one_rack_alone_and_by_one_of_four(self):
        game = game_of(("ab",), "")
        self.check_done(game, ("lay", AB), 11)
        self.check_over(game)
        game = game_of(("c", "c", "ab", "c"), "")
        game.do(PASS)
        game.do(PASS)
        self.check_done(game, ("lay", AB), 11)
        self.check_over(game)
        self.assertEqual(game.turn(), 3)

    def test_not_where_the_bag_still_has_tiles(self):
        game = game_of(("ab", "c"), "zyxw", size=2)
        self.check_done(game, ("lay", AB), 11)
        self.assertEqual((game.racks_now(), game.bag_now()), (("yz", "c"), "xw"))
        self.assertFalse(game.is_over())

    def test_not_where_the_rack_still_has_tiles(self):
        game = game_of(("abc", ""), "")
        self.check_done(game, ("lay", AB), 11)
        self.assertFalse(game.is_over())
        self.check_done(game, PASS, 0)

    def test_not_where_the_last_draw_leaves_tiles_in_the_rack(self):
        game = game_of(("ab", "c"), "z", size=2)
        self.check_done(game, ("lay", AB), 11)
        self.assertEqual((game.racks_now(), game.bag_now()), (("z", "c"), ""))
        self.assertFalse(game.is_over())

    def test_not_where_another_rack_is_without(self):
        game = game_of(("abc", "", ""), "")
        self.check_done(game, ("lay", AB), 11)
        self.assertFalse(game.is_over())
        self.check_done(game, PASS, 0)
        self.assertFalse(game.is_over())
        self.check_done(game, PASS, 0)
        self.assertFalse(game.is_over())
        self.check_done(game, ("lay", ((0, 2, "c"),)), 111)
        self.check_over(game)

    def test_not_at_first_and_not_behind_a_pass(self):
        game = game_of(("", "", ""), "")
        self.assertFalse(game.is_over())
        for _ in range(5):
            self.check_done(game, PASS, 0)
            self.assertFalse(game.is_over())
        self.check_done(game, PASS, 0)
        self.check_over(game)

    def test_by_passes_two_for_each_rack(self):
        for many in range(1, 5):
            game = game_of(("abc",) * many, "ab")
            for _ in range(2 * many):
                self.assertFalse(game.is_over())
                self.check_done(game, PASS, 0)
            self.check_over(game)
            self.assertEqual(game.turn(), 0)

    def test_not_with_a_laying_or_a_swap_between(self):
        for deed in (("lay", AB), ("swap", "a")):
            for place in range(4):
                game = game_of(("abc", "abc"), "abab")
                deeds = [PASS] * place + [deed] + [PASS] * (3 - place)
                for one in deeds:
                    game.do(one)
                    self.assertFalse(game.is_over())
                for _ in range(place):
                    self.assertFalse(game.is_over())
                    self.check_done(game, PASS, 0)
                self.assertFalse(game.is_over())
                self.check_done(game, PASS, 0)
                self.check_over(game)

    def test_a_refused_deed_is_no_deed_between(self):
        game = game_of(("abc", "abc"), "abab")
        for _ in range(4):
            self.check_refused(game, ("lay", ()), ("NoLaying",))
            self.check_refused(game, ("swap", "z"), ("Lacking", "z"))
            game.do(PASS)
        self.check_over(game)

    def test_over_goes_ahead_of_the_rest_and_no_deed_ahead_of_it(self):
        game = game_of(("abc",), "")
        game.do(PASS)
        game.do(PASS)
        for deed, kind in ((("lay", 7), Over), (("swap", "z"), Over), (("swap", "abc"), Over), (("swap", "Z"), NoDeed)):
            with self.assertRaises(kind):
                game.do(deed)
        game.back()
        with self.assertRaises(NoLaying):
            game.do(("lay", 7))


class TestBack(GameCase):
    def test_nothing_to_take_back(self):
        game = game_of(("abc", "b"), "ab")
        ahead = stand_of(game)
        with self.assertRaises(NoBack):
            game.back()
        self.assertEqual(stand_of(game), ahead)

    def test_back_to_the_begin_and_once_more(self):
        game = game_of(("abc", "abc"), "zzyyxx", bonus=(2, 7))
        stands = []
        for deed in (("lay", AB), ("swap", "ac"), ("lay", ((0, 2, "c"),)), PASS, ("swap", "z")):
            stands.append(stand_of(game))
            game.do(deed)
        while stands:
            self.assertIsNone(game.back())
            self.assertEqual(stand_of(game), stands.pop())
        for _ in range(2):
            self.assertEqual(back_by(game), ("NoBack",))
            self.assertEqual(stand_of(game), stand_of(game_of(("abc", "abc"), "zzyyxx")))

    def test_a_refused_deed_leaves_nothing_to_take_back(self):
        game = game_of(("abc", "b"), "ab")
        for deed in (("lay", ()), ("lay", ((0, 0, "b"), (0, 1, "b"))), ("swap", "z"), ("swap", "abc"), ("jump",), None):
            self.assertIsInstance(done_by(game, deed), tuple)
            self.assertEqual(back_by(game), ("NoBack",))

    def test_where_it_is_over_by_a_laying(self):
        game = game_of(("ab", "c"), "")
        ahead = stand_of(game)
        game.do(("lay", AB))
        self.assertTrue(game.is_over())
        game.back()
        self.assertEqual(stand_of(game), ahead)
        self.assertFalse(game.is_over())
        self.assertEqual(game.do(PASS), 0)
        self.assertEqual(game.do(PASS), 0)
        self.assertEqual(game.do(("lay", AB)), 11)
        self.assertTrue(game.is_over())

    def test_where_it_is_over_by_passes(self):
        game = game_of(("abc", "c"), "zz")
        for _ in range(4):
            game.do(PASS)
        self.assertTrue(game.is_over())
        game.back()
        self.assertFalse(game.is_over())
        self.assertEqual(game.turn(), 1)
        game.do(("swap", "c"))
        self.assertFalse(game.is_over())
        game.back()
        game.do(PASS)
        self.assertTrue(game.is_over())

    def test_passes_taken_back_do_not_count(self):
        game = game_of(("abc", "c"), "zz")
        for _ in range(6):
            game.do(PASS)
            game.back()
        for _ in range(3):
            game.do(PASS)
            self.assertFalse(game.is_over())
        game.do(PASS)
        self.assertTrue(game.is_over())

    def test_a_deed_taken_back_between_passes(self):
        game = game_of(("abc", "abc"), "zz")
        game.do(PASS)
        game.do(PASS)
        game.do(("lay", AB))
        game.back()
        game.do(PASS)
        self.assertFalse(game.is_over())
        game.do(PASS)
        self.assertTrue(game.is_over())


class TestTwins(GameCase):
    def games(self):
        fresh = game_of(("abc", "abc"), "zyx")
        played = game_of(("abc", "abc"), "zyx")
        for deed in (("lay", AB), ("swap", "a"), PASS):
            played.do(deed)
        laid_out = game_of(("ab", "c"), "")
        laid_out.do(("lay", AB))
        passed_out = game_of(("abc",), "zyx")
        passed_out.do(PASS)
        passed_out.do(PASS)
        return (fresh, played, laid_out, passed_out)

    def test_a_twin_stands_as_it_does(self):
        for game in self.games():
            other = game.twin()
            self.assertIsInstance(other, Game)
            self.assertIsNot(other, game)
            self.assertEqual(stand_of(other), stand_of(game))
            self.assertEqual(stands_back(other), stands_back(game))
            self.assertEqual(stand_of(other.twin().twin()), stand_of(game))

    def test_deeds_of_one_change_nothing_in_the_other(self):
        for place in range(4):
            for swapped in (False, True):
                game = self.games()[place]
                other = game.twin()
                one, still = (other, game) if swapped else (game, other)
                ahead, beyond = stand_of(still), stands_back(still)
                done_by(one, ("swap", "c"))
                done_by(one, PASS)
                for _ in range(4):
                    back_by(one)
                self.assertEqual(done_by(one, PASS), 0)
                self.assertNotEqual(stands_back(one) + [stand_of(one)], beyond + [ahead])
                self.assertEqual(stand_of(still), ahead)
                self.assertEqual(stands_back(still), beyond)

    def test_what_was_done_can_be_taken_back_by_both(self):
        game = self.games()[1]
        other = game.twin()
        beyond = stands_back(game)
        for stand in beyond:
            other.back()
            self.assertEqual(stand_of(other), stand)
        self.assertEqual(back_by(other), ("NoBack",))
        self.assertEqual(stands_back(game), beyond)
        for stand in beyond:
            game.back()
            self.assertEqual(stand_of(game), stand)

    def test_a_twin_goes_on_by_the_same_book_worths_bonus_and_size(self):
        game = game_of(("abc", "ab"), "zyxwvu", size=4, bonus=(2, 40))
        other = game.twin().twin()
        for one in (game, other):
            self.assertEqual(one.do(("lay", AB)), 51)
            self.assertEqual(one.racks_now(), ("cxyz", "ab"))
            self.assertEqual(done_by(one, ("lay", ((0, 2, "a"), (0, 3, "b")))), ("NoWord", "abab"))

    def test_a_twin_of_a_game_that_is_over(self):
        for game in self.games()[2:]:
            other = game.twin()
            self.check_refused(other, PASS, ("Over",))
            other.back()
            self.assertFalse(other.is_over())
            self.assertTrue(game.is_over())

    def test_the_passes_of_one_do_not_count_for_the_other(self):
        game = game_of(("abc", "abc"), "zyx")
        game.do(PASS)
        other = game.twin()
        for _ in range(3):
            game.do(PASS)
        self.assertTrue(game.is_over())
        self.assertFalse(other.is_over())
        other.do(PASS)
        other.do(PASS)
        self.assertFalse(other.is_over())
        other.do(PASS)
        self.assertTrue(other.is_over())


# What 23 to 25 say, told once more: a game is gone through anew from its begin, by all its deeds.


class Setup:
    def __init__(self, source):
        rows = tuple("".join(source.choice(".....a") for _ in range(4)) for _ in range(source.randint(2, 4)))
        rows = source.choice((rows, no_marks(rows)))
        marks = tuple("".join(source.choice("...234bcd") for _ in row) for row in rows)
        self.board = Board(rows, marks, (source.randrange(len(rows)), source.randrange(4)))
        self.words = tuple(source.sample(WORDS + ("abab", "baa", "bb", "bbb"), 8))
        self.bonus = (source.randint(1, 4), source.randint(0, 9))
        self.size = source.randint(1, 5)
        tiles = source.sample("aaaaaaaaaabbbbbbbbbccc??", 24)
        self.racks = tuple("".join(tiles[:source.randint(0, self.size)]) for _ in range(source.randint(1, 4)))
        self.bag = "".join(tiles[:source.randint(0, 9)])

    def game(self):
        return Game(self.board, Book(self.words), WORTHS, self.bonus, self.size, self.racks, self.bag)


def plain_stand(setup, deeds):
    board, bag, many = setup.board, list(setup.bag), len(setup.racks)
    racks, points = [list(rack) for rack in setup.racks], [0] * many
    for at, deed in enumerate(deeds):
        rack = racks[at % many]
        if deed[0] == "lay":
            points[at % many] += plain_points(board, WORTHS, setup.bonus, deed[1])
            lines = [list(row) for row in board.rows]
            for row, column, sign in deed[1]:
                lines[row][column] = sign
                rack.remove("?" if sign.isupper() else sign)
            board = Board(tuple("".join(line) for line in lines), board.marks, board.begin)
            while len(rack) < setup.size and bag:
                rack.append(bag.pop(0))
        if deed[0] == "swap":
            for tile in deed[1]:
                rack.remove(tile)
                rack.append(bag.pop(0))
            bag += sorted(deed[1])
    names = [deed[0] for deed in deeds]
    over = names[::-1][: 2 * many] == ["pass"] * 2 * many
    over = over or (names[-1:] == ["lay"] and not bag and not racks[(len(deeds) - 1) % many])
    told = tuple("".join(sorted(rack)) for rack in racks)
    return (parts(board), told, "".join(bag), tuple(points), len(deeds) % many, over)


def plain_refusal(setup, stand, deed):
    """None, or the refusal that is due; of a lay that stands with a laying, a swap with tiles, and a pass."""
    (rows, _, begin), racks, bag, _, turn, over = stand
    if over:
        return ("Over",)
    if deed[0] == "lay":
        return (broken(rows, begin, setup.words, racks[turn], deed[1]) or [None])[0]
    if deed[0] == "swap":
        for at, tile in enumerate(deed[1]):
            if deed[1][: at + 1].count(tile) > racks[turn].count(tile):
                return ("Lacking", tile)
        return ("TooFew",) if len(bag) < len(deed[1]) else None
    return None


def random_deed(source, setup, game):
    layings = all_layings(game.board_now(), Book(setup.words), game.racks_now()[game.turn()])
    chosen = source.randrange(10)
    if chosen < 5 and layings:
        return ("lay", source.choice(layings))
    if chosen < 6:
        rows = game.board_now().rows
        cells = [(row, column) for row in range(len(rows)) for column in range(len(rows[0]))]
        cells = sorted(source.sample(cells, source.randint(1, 3)))
        return ("lay", laying_of(cells, [source.choice("abAc") for _ in cells]))
    if chosen < 8:
        rack = game.racks_now()[game.turn()] + source.choice(("", "", "z", "a"))
        return ("swap", "".join(source.sample(rack, source.randint(1, len(rack))))) if rack else ("swap", "a")
    return PASS


class TestByChance(GameCase):
    def check_step(self, source, setup, game, deeds, seen):
        stand = plain_stand(setup, deeds)
        if source.randrange(5) == 0:
            told = None if deeds else ("NoBack",)
            self.assertEqual(back_by(game), told)
            deeds = deeds[:-1]
        else:
            deed = random_deed(source, setup, game)
            told = plain_refusal(setup, stand, deed)
            if told is None:
                deeds = deeds + [deed]
                turn = stand[4]
                told = plain_stand(setup, deeds)[3][turn] - stand[3][turn]
            self.assertEqual(done_by(game, deed), told)
        seen[told[0] if isinstance(told, tuple) else "done"] = True
        self.assertEqual(stand_of(game), plain_stand(setup, deeds))
        return deeds

    def test_games_with_twins_against_going_through_them_anew(self):
        source = random.Random(23)
        seen = {}
        for at in range(120):
            setup = Setup(source)
            games = [(setup.game(), [])]
            for _ in range(25):
                place = source.randrange(len(games))
                game, deeds = games[place]
                with self.subTest(at=at, deeds=deeds):
                    games[place] = (game, self.check_step(source, setup, game, deeds, seen))
                if len(games) < 3 and source.randrange(8) == 0:
                    games.append((game.twin(), games[place][1]))
            for game, deeds in games:
                with self.subTest(at=at, deeds=deeds):
                    self.assertEqual(stand_of(game), plain_stand(setup, deeds))
                    anew = [plain_stand(setup, deeds[:many]) for many in range(len(deeds))]
                    self.assertEqual(stands_back(game), anew[::-1])
        self.assertLessEqual({"done", "NoBack", "Over", "Lacking", "TooFew", "NoWord", "Apart", "Taken"}, set(seen))

    def test_the_turned_game(self):
        source = random.Random(24)
        laid = 0
        for _ in range(60):
            setup = Setup(source)
            game = setup.game()
            turned = Game(
                setup.board.turned(), Book(setup.words), WORTHS, setup.bonus, setup.size, setup.racks, setup.bag,
            )
            for _ in range(12):
                deed = random_deed(source, setup, game)
                answer = done_by(game, deed)
                if isinstance(answer, int):
                    also = ("lay", turned_laying(deed[1])) if deed[0] == "lay" else deed
                    self.assertEqual(done_by(turned, also), answer)
                    laid += deed[0] == "lay"
                self.assertEqual(parts(turned.board_now().turned()), parts(game.board_now()))
                self.assertEqual(stand_of(turned)[1:], stand_of(game)[1:])
        self.assertGreater(laid, 60)


if __name__ == "__main__":
    unittest.main()
