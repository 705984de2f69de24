"""The words of a laying [12], the seven refusals in their order [13], and Lacking as it tells [14]."""

import itertools
import random
import unittest

from letterrack import errors
from letterrack.boards import Board
from letterrack.books import Book
from letterrack.errors import Apart, Crooked, Gap, Lacking, NoLaying, NoWord, RackError, Taken
from letterrack.rules import check_laying, formed
from letterrack.signs import turned_laying
from tests.helper import apart_by, broken, crooked_by, gap_by, lacking_by, laying_of, no_word_by, parts
from tests.helper import plain, plain_words, random_rows, taken_by, told_by

ORDER = ("NoLaying", "Taken", "Crooked", "Gap", "Apart", "Lacking", "NoWord")


def answer(board, book, rack, laying):
    return told_by(check_laying, board, book, rack, laying)


class TestFormed(unittest.TestCase):
    def test_one_sign_across_then_down(self):
        board = plain((".a.", "b.c", ".d."))
        self.assertEqual(formed(board, ((1, 1, "x"),)), ((1, 0, 0, "bxc"), (0, 1, 1, "axd")))

    def test_one_sign_with_one_word(self):
        self.assertEqual(formed(plain(("a..", "...")), ((0, 1, "t"),)), ((0, 0, 0, "at"),))
        self.assertEqual(formed(plain(("a..", "...")), ((1, 0, "t"),)), ((0, 0, 1, "at"),))

    def test_one_sign_without_words(self):
        self.assertEqual(formed(plain((".",)), ((0, 0, "t"),)), ())
        self.assertEqual(formed(plain(("a..", "..z", "...")), ((1, 1, "T"),)), ((1, 1, 0, "Tz"),))
        self.assertEqual(formed(plain(("a..", "...", "..z")), ((1, 1, "T"),)), ())

    def test_one_row(self):
        board = plain((".a..", "....", "..b."))
        self.assertEqual(
            formed(board, ((1, 0, "c"), (1, 1, "d"), (1, 2, "e"), (1, 3, "f"))),
            ((1, 0, 0, "cdef"), (0, 1, 1, "ad"), (1, 2, 1, "eb")),
        )

    def test_one_column(self):
        board = plain((".a..", "....", "..b.")).turned()
        self.assertEqual(
            formed(board, ((0, 1, "c"), (1, 1, "d"), (2, 1, "e"), (3, 1, "f"))),
            ((0, 1, 1, "cdef"), (1, 0, 0, "ad"), (2, 1, 0, "eb")),
        )

    def test_the_run_goes_beyond_the_laying_and_over_what_lies_between(self):
        board = plain(("ab.d.fg.h",))
        self.assertEqual(formed(board, ((0, 2, "c"), (0, 4, "e"))), ((0, 0, 0, "abcdefg"),))
        self.assertEqual(formed(board.turned(), ((2, 0, "c"), (4, 0, "e"))), ((0, 0, 1, "abcdefg"),))

    def test_runs_of_one_sign_are_left_out(self):
        self.assertEqual(formed(plain(("....", "....")), ((0, 1, "a"), (0, 2, "b"))), ((0, 1, 0, "ab"),))

    def test_cross_runs_of_cells_that_lay_ahead_are_not_told(self):
        board = plain(("a..", "b..", "..."))
        self.assertEqual(formed(board, ((0, 1, "x"), (0, 2, "y"))), ((0, 0, 0, "axy"),))

    def test_signs_as_they_lie_small_and_great(self):
        board = plain(("Ca.", "..."))
        self.assertEqual(formed(board, ((0, 2, "T"),)), ((0, 0, 0, "CaT"),))
        self.assertEqual(formed(board, ((1, 0, "a"), (1, 1, "B"))), ((1, 0, 0, "aB"), (0, 0, 1, "Ca"), (0, 1, 1, "aB")))

    def test_the_kinds_and_that_nothing_is_changed(self):
        board = Board((".a.", "b.c", ".d."), ("2..", ".b.", "..d"), (2, 0))
        laying = ((1, 1, "x"),)
        told = formed(board, laying)
        self.assertIs(type(told), tuple)
        self.assertEqual([[type(part) for part in word] for word in told], [[int, int, int, str]] * 2)
        self.assertEqual({type(word) for word in told}, {tuple})
        self.assertEqual(parts(board), ((".a.", "b.c", ".d."), ("2..", ".b.", "..d"), (2, 0)))
        self.assertEqual(laying, ((1, 1, "x"),))

    def test_against_going_cell_by_cell(self):
        source = random.Random(12)
        many = 0
        while many < 400:
            rows, laying = random_straight(source)
            if taken_by(rows, laying) or gap_by(rows, laying):
                continue
            many += 1
            with self.subTest(rows=rows, laying=laying):
                told = formed(plain(rows), laying)
                self.assertEqual(told, plain_words(rows, laying))
                turned = formed(plain(rows).turned(), turned_laying(laying))
                turned = [(column, row, 1 - way, signs) for row, column, way, signs in turned]
                self.assertEqual(sorted(turned), sorted(told))


def random_straight(source):
    rows = random_rows(source, "...aB")
    many, wide = len(rows), len(rows[0])
    if source.randrange(2):
        row = source.randrange(many)
        line = [(row, column) for column in range(wide)]
    else:
        column = source.randrange(wide)
        line = [(row, column) for row in range(many)]
    start = source.randrange(len(line))
    end = source.randint(start + 1, len(line))
    cells = [cell for cell in line[start:end] if rows[cell[0]][cell[1]] == "."] or line[start : start + 1]
    return rows, laying_of(cells, [source.choice("abAB") for _ in cells])


class RulesCase(unittest.TestCase):
    def setUp(self):
        self.book = Book(["cat", "at", "cats", "tea"])

    def check_told(self, board, rack, laying, told):
        """Told is None, or a refusal's name and fields; and all stays as it was."""
        kept = (parts(board), self.book.words(), self.book.machine().table())
        self.assertEqual(answer(board, self.book, rack, laying), told)
        self.assertEqual((parts(board), self.book.words(), self.book.machine().table()), kept)


NO_LAYINGS = (
    # no tuple of 1 to 7
    None, True, False, 0, 1, -1, 10 ** 5000, "", "a", "00a", "0 0 a", (),
    # things that are no triples
    (None,), (True,), (0,), ("",), ("a",), ("00a",), ((),), ((0,),), ((0, 0),), ((0, 0, "a", 0),), ((0, 0, "a", "a"),),
    (((0, 0), "a"),), (((0, 0, "a"),),), (0, 0, "a"), ((0, 0, "a"), None), (None, (0, 0, "a")), ((0, 0, "a"), "01b"),
    ((0, 0, "a"), (0, 1)), ((0, 0, "a"), (0, 1, "b", "c")), ((0, 0, "a"), ()), ((0, 0, "a"), 1), ((0, 0, "a"), True),
    # rows and columns
    ((True, 0, "a"),), ((False, 0, "a"),), ((0, True, "a"),), ((0, False, "a"),), (("0", 0, "a"),), ((0, "0", "a"),),
    ((None, 0, "a"),), ((0, None, "a"),), (((0,), 0, "a"),), ((0, (), "a"),), ((-1, 0, "a"),), ((0, -1, "a"),),
    ((-3, 0, "a"),), ((0, -4, "a"),), ((3, 0, "a"),), ((0, 4, "a"),), ((3, 4, "a"),), ((3, 3, "a"),), ((2, 4, "a"),),
    ((10 ** 30, 0, "a"),), ((0, 10 ** 30, "a"),), ((-(10 ** 30), 0, "a"),), ((10 ** 5000, 0, "a"),),
    ((0, 10 ** 5000, "a"),), ((0, -(10 ** 5000), "a"),), ((0, 0, "a"), (0, True, "b")), ((0, 0, "a"), (True, 0, "b")),
    ((0, 0, "a"), (0, 4, "b")), ((0, 0, "a"), (3, 0, "b")), ((0, -1, "a"), (0, 0, "b")), ((-1, 0, "a"), (0, 0, "b")),
    ((0, 0, "a"), (0, "1", "b")), ((0, 0, "a"), (None, 1, "b")), (("a", 0, 0),),
    # signs
    ((0, 0, ""),), ((0, 0, "ab"),), ((0, 0, "."),), ((0, 0, "?"),), ((0, 0, "+"),), ((0, 0, "1"),), ((0, 0, " "),),
    ((0, 0, "\n"),), ((0, 0, "a\n"),), ((0, 0, None),), ((0, 0, 0),), ((0, 0, True),), ((0, 0, ("a",)),), ((0, 0, ()),),
    ((0, 0, "a"), (0, 1, "?")), ((0, 0, "."), (0, 1, "b")), ((0, 0, "a"), (0, 1, None)),
    # not rising, or a cell twice
    ((0, 1, "a"), (0, 0, "b")), ((1, 0, "a"), (0, 0, "b")), ((1, 0, "a"), (0, 3, "b")), ((0, 0, "a"), (0, 0, "a")),
    ((0, 0, "a"), (0, 0, "b")), ((0, 0, "b"), (0, 0, "a")), ((0, 0, "a"), (0, 2, "b"), (0, 1, "c")),
    ((0, 0, "a"), (0, 1, "b"), (0, 1, "c")), ((0, 0, "A"), (0, 0, "a"), (0, 1, "b")),
)


class TestNoLaying(RulesCase):
    def test_whatever_is_no_laying(self):
        for rows in (("....", "....", "...."), ("cats", "aT..", "t..."), ("abcd", "efgh", "ijkl")):
            board = plain(rows)
            for place, thing in enumerate(NO_LAYINGS):
                with self.subTest(rows=rows, place=place):
                    self.check_told(board, "cat?ab", thing, ("NoLaying",))

    def test_seven_are_a_laying_and_eight_are_none(self):
        self.book = Book(["abcdefg", "abcdefgh"])
        board = plain((".........",))
        for long, told in ((7, None), (8, ("NoLaying",))):
            laying = tuple((0, column, "abcdefgh"[column]) for column in range(long))
            self.check_told(board, "abcdefgh", laying, told)
            self.check_told(board.turned(), "abcdefgh", turned_laying(laying), told)

    def test_nine_also(self):
        self.check_told(plain((".........",)), "abc", tuple((0, column, "a") for column in range(9)), ("NoLaying",))

    def test_another_board_has_other_cells(self):
        laying = ((1, 2, "a"),)
        self.check_told(plain(("...", "..."), (1, 2)), "a", laying, ("NoWord", "a"))
        self.check_told(plain(("..", "..", "..")), "a", laying, ("NoLaying",))
        self.check_told(plain((".", ".", ".")), "a", ((2, 1, "a"),), ("NoLaying",))
        self.check_told(plain((".",)), "a", ((0, 1, "a"),), ("NoLaying",))

    def test_the_refusal_can_be_shown(self):
        with self.assertRaises(NoLaying) as told:
            check_laying(plain((".",)), self.book, "a", ((0, 10 ** 5000, "a"),))
        self.assertIsInstance(str(told.exception), str)

    def test_one_part_exchanged_by_chance(self):
        source = random.Random(13)
        put_in = (None, True, False, 0, 1, 2, 3, -1, "", "a", "Z", "?", ".", "ab", (), (0,), (0, 0, "a"), (2, 2, "Z"))
        board = plain(("...", "c..", "..."))
        triples = list(itertools.product(range(3), range(3), ("a", "Z")))
        many = {True: 0, False: 0}
        for _ in range(3000):
            made = [list(triple) for triple in sorted(source.sample(triples, source.randint(1, 3)))]
            place = source.randrange(len(made))
            if source.randrange(4) == 0:
                made[place] = source.choice(put_in)
            else:
                made[place][source.randrange(3)] = source.choice(put_in)
            made = tuple(tuple(one) if isinstance(one, list) else one for one in made)
            # True is like 1 for Python, so the kinds are asked for too.
            fits = all(one in triples and [type(part) for part in one] == [int, int, str] for one in made)
            fits = fits and all(one[:2] < other[:2] for one, other in itertools.pairwise(made))
            many[fits] += 1
            told = broken(board.rows, (0, 0), self.book.words(), "a?", made)[:1] if fits else [("NoLaying",)]
            with self.subTest(made=made):
                self.assertEqual(answer(board, self.book, "a?", made), (told or [None])[0])
        self.assertGreater(min(many.values()), 200)


class TestEachRule(RulesCase):
    def test_none_broken(self):
        board = plain(("....", "....", "...."), (1, 1))
        for laying in (
            ((1, 0, "c"), (1, 1, "a"), (1, 2, "t")),
            ((1, 1, "c"), (1, 2, "a"), (1, 3, "t")),
            ((1, 1, "c"), (1, 2, "A"), (1, 3, "t")),
            ((0, 1, "C"), (1, 1, "a"), (2, 1, "t")),
            ((1, 1, "a"), (1, 2, "t")),
            ((0, 1, "a"), (1, 1, "T")),
        ):
            with self.subTest(laying=laying):
                self.check_told(board, "tac?", laying, None)

    def test_none_broken_beside_what_lies_there(self):
        board = plain((".....", ".ca..", "....."), (0, 0))
        self.check_told(board, "t", ((1, 3, "t"),), None)
        self.check_told(board, "ts", ((1, 3, "t"), (1, 4, "s")), None)
        self.check_told(board, "?t", ((1, 3, "T"),), None)
        self.check_told(board, "tt", ((2, 2, "t"),), None)
        self.check_told(plain(("c.ts", "....")), "ax", ((0, 1, "a"),), None)
        self.check_told(plain((".a..", "....")), "cts", ((0, 0, "c"), (0, 2, "t"), (0, 3, "s")), None)
        self.check_told(plain((".a..", "....")).turned(), "cts", ((0, 0, "c"), (2, 0, "t"), (3, 0, "s")), None)

    def test_the_words_that_lie_there_already_are_not_asked_for(self):
        board = plain(("qxz", "..a", "..."))
        self.check_told(board, "t", ((2, 2, "t"),), ("NoWord", "zat"))
        self.check_told(plain(("qxz", "...", "a..")), "t", ((2, 1, "t"),), None)

    def test_taken(self):
        board = plain(("ca..", "...."))
        self.check_told(board, "cats", ((0, 0, "c"),), ("Taken", 0, 0))
        self.check_told(board, "cats", ((0, 1, "a"), (0, 2, "t")), ("Taken", 0, 1))
        self.check_told(board.turned(), "cats", ((1, 0, "a"), (2, 0, "t")), ("Taken", 1, 0))

    def test_taken_tells_the_first_cell(self):
        board = plain((".xA.", "...."))
        self.check_told(board, "cats", ((0, 0, "c"), (0, 1, "a"), (0, 2, "t")), ("Taken", 0, 1))
        self.check_told(board, "cats", ((0, 2, "a"), (0, 3, "t")), ("Taken", 0, 2))
        self.check_told(board, "cats", ((0, 0, "c"), (0, 2, "t")), ("Taken", 0, 2))

    def test_taken_also_by_a_blank_and_by_the_like_sign(self):
        self.check_told(plain(("A.",)), "a?t", ((0, 0, "A"), (0, 1, "t")), ("Taken", 0, 0))
        self.check_told(plain(("a.",)), "at", ((0, 0, "a"), (0, 1, "t")), ("Taken", 0, 0))

    def test_crooked(self):
        board = plain(("...", "...", "..."), (0, 0))
        for cells in (((0, 0), (1, 1)), ((0, 0), (0, 1), (1, 1)), ((0, 0), (1, 0), (1, 1)), ((0, 0), (0, 2), (1, 0))):
            laying = laying_of(cells, "cat"[: len(cells)])
            with self.subTest(laying=laying):
                self.check_told(board, "cat", laying, ("Crooked",))
                self.check_told(board.turned(), "cat", turned_laying(laying), ("Crooked",))

    def test_crooked_where_first_and_last_are_in_one_column(self):
        board = plain(("...", "...", "..."), (0, 0))
        self.check_told(board, "cat", ((0, 0, "c"), (1, 1, "a"), (2, 0, "t")), ("Crooked",))

    def test_gap(self):
        board = plain(("....", "....", "...."), (0, 0))
        self.check_told(board, "cat", ((0, 0, "a"), (0, 2, "t")), ("Gap", 0, 1))
        self.check_told(board, "cat", ((0, 0, "a"), (2, 0, "t")), ("Gap", 1, 0))

    def test_gap_tells_the_first_one(self):
        board = plain(("......", "......"), (0, 0))
        self.check_told(board, "cat", ((0, 0, "a"), (0, 3, "t")), ("Gap", 0, 1))
        self.check_told(board, "cat", ((0, 0, "c"), (0, 1, "a"), (0, 3, "t"), (0, 5, "s")), ("Gap", 0, 2))
        self.check_told(board.turned(), "cat", ((0, 0, "c"), (1, 0, "a"), (3, 0, "t"), (5, 0, "s")), ("Gap", 2, 0))
        self.check_told(plain((".a..t.",)), "cat", ((0, 0, "c"), (0, 5, "s")), ("Gap", 0, 2))

    def test_no_gap_where_something_lies_between(self):
        self.check_told(plain((".at.", "....")), "cs", ((0, 0, "c"), (0, 3, "s")), None)
        self.check_told(plain((".", "A", "t", ".")), "cs", ((0, 0, "c"), (3, 0, "s")), None)

    def test_apart_on_a_free_board(self):
        board = plain(("....", "....", "...."), (1, 1))
        for laying in (
            ((1, 2, "a"), (1, 3, "t")), ((0, 0, "c"), (0, 1, "a"), (0, 2, "t")), ((0, 0, "a"), (1, 0, "t")),
            ((2, 1, "a"),), ((0, 2, "c"), (1, 2, "a"), (2, 2, "t")),
        ):
            with self.subTest(laying=laying):
                self.check_told(board, "cat", laying, ("Apart",))

    def test_a_free_board_and_each_begin(self):
        laying = ((1, 1, "c"), (1, 2, "a"), (1, 3, "t"))
        for row in range(3):
            for column in range(5):
                board = plain((".....",) * 3, (row, column))
                told = None if (row, column) in ((1, 1), (1, 2), (1, 3)) else ("Apart",)
                with self.subTest(begin=(row, column)):
                    self.check_told(board, "cat", laying, told)

    def test_apart_beside_nothing(self):
        rows = ("c....", ".....", ".....")
        for laying in (
            ((1, 1, "a"), (1, 2, "t")), ((0, 2, "a"), (0, 3, "t")), ((2, 0, "a"), (2, 1, "t")), ((2, 4, "a"),),
        ):
            with self.subTest(laying=laying):
                self.check_told(plain(rows), "cat", laying, ("Apart",))

    def test_begin_joins_nothing_where_something_lies_on_the_board(self):
        self.check_told(plain(("c....", "....."), (1, 2)), "at", ((1, 2, "a"), (1, 3, "t")), ("Apart",))

    def test_begin_is_not_asked_for_where_something_lies_on_the_board(self):
        self.check_told(plain(("c....", "....."), (1, 4)), "at", ((0, 1, "a"), (0, 2, "t")), None)

    def test_corners_and_the_other_edge_do_not_join(self):
        board = plain(("...", ".c.", "..."))
        for cell in ((0, 0), (0, 2), (2, 0), (2, 2)):
            self.check_told(board, "at", laying_of((cell,), "a"), ("Apart",))
        self.check_told(plain(("c...", "....")), "a", ((0, 3, "a"),), ("Apart",))
        self.check_told(plain(("c", ".", ".", ".")), "a", ((3, 0, "a"),), ("Apart",))
        self.check_told(plain(("...c", "....")), "a", ((1, 0, "a"),), ("Apart",))

    def test_each_side_joins(self):
        board = plain(("...", ".a.", "..."))
        self.check_told(board, "ct", ((1, 2, "t"),), None)
        self.check_told(board, "ct", ((2, 1, "t"),), None)
        self.check_told(board, "ct", ((1, 0, "c"),), ("NoWord", "ca"))
        self.check_told(board, "ct", ((0, 1, "c"),), ("NoWord", "ca"))

    def test_one_cell_that_is_joined_is_enough(self):
        self.book = Book(["cat", "ta"])
        self.check_told(plain(("...", "..a", "...")), "cat", ((0, 0, "c"), (0, 1, "a"), (0, 2, "t")), None)

    def test_lacking(self):
        board = plain(("....", "...."))
        cat = ((0, 0, "c"), (0, 1, "a"), (0, 2, "t"))
        for rack, tile in (("", "c"), ("c", "a"), ("ct", "a"), ("tac", None), ("ca", "t"), ("at", "c"), ("ca??", "t")):
            with self.subTest(rack=rack):
                self.check_told(board, rack, cat, tile and ("Lacking", tile))

    def test_lacking_blanks_and_tiles_that_are_no_more_there(self):
        board = plain(("....", "...."))
        self.check_told(board, "cat", ((0, 0, "C"), (0, 1, "a"), (0, 2, "t")), ("Lacking", "?"))
        self.check_told(board, "?t", ((0, 0, "C"), (0, 1, "A"), (0, 2, "t")), ("Lacking", "?"))
        self.check_told(board, "??t", ((0, 0, "C"), (0, 1, "A"), (0, 2, "t")), None)
        self.check_told(board, "at", ((0, 0, "t"), (0, 1, "a"), (0, 2, "t")), ("Lacking", "t"))
        self.check_told(board, "t", ((0, 0, "a"), (0, 1, "x"), (0, 2, "t")), ("Lacking", "a"))

    def test_what_lies_there_takes_no_tiles(self):
        self.check_told(plain(("ca..",)), "t", ((0, 2, "t"),), None)

    def test_no_word(self):
        board = plain(("....", "...."))
        self.check_told(board, "cat", ((0, 0, "t"), (0, 1, "a"), (0, 2, "c")), ("NoWord", "tac"))
        self.check_told(board, "cat", ((0, 0, "c"), (1, 0, "a")), ("NoWord", "ca"))
        self.check_told(plain(("cat..",)), "s", ((0, 3, "t"),), ("Lacking", "t"))
        self.check_told(plain(("cat..",)), "t", ((0, 3, "t"),), ("NoWord", "catt"))

    def test_no_word_tells_the_first_one(self):
        board = plain(("xz.", "..."))
        self.check_told(board, "cat", ((1, 0, "c"), (1, 1, "a")), ("NoWord", "ca"))
        self.check_told(board, "cat", ((1, 0, "a"), (1, 1, "t")), ("NoWord", "xa"))
        self.check_told(plain((".z.", "...")), "cat", ((1, 0, "a"), (1, 1, "t")), ("NoWord", "zt"))
        self.check_told(plain((".z.", "...")).turned(), "cat", ((0, 1, "a"), (1, 1, "t")), ("NoWord", "zt"))

    def test_no_word_of_one_sign_tells_the_run_across_first(self):
        board = plain((".z", "x."))
        self.check_told(board, "a", ((1, 1, "a"),), ("NoWord", "xa"))
        self.check_told(plain((".z", "a.")), "t", ((1, 1, "t"),), ("NoWord", "zt"))

    def test_one_sign_that_makes_no_word(self):
        self.check_told(plain(("...", "..."), (1, 1)), "a", ((1, 1, "a"),), ("NoWord", "a"))
        self.check_told(plain(("...", "..."), (1, 1)), "?", ((1, 1, "Q"),), ("NoWord", "q"))
        self.check_told(plain((".",)), "z", ((0, 0, "z"),), ("NoWord", "z"))

    def test_words_with_great_letters_are_told_in_small_ones(self):
        self.check_told(plain(("XZ..",)), "a?", ((0, 2, "A"), (0, 3, "a")), ("NoWord", "xzaa"))
        self.check_told(plain(("CA..",)), "?", ((0, 2, "T"),), None)

    def test_the_book_is_asked_as_it_stands(self):
        board = plain(("....",))
        laying = ((0, 0, "d"), (0, 1, "o"))
        self.check_told(board, "do", laying, ("NoWord", "do"))
        self.book.put_in("do")
        self.check_told(board, "do", laying, None)
        self.book.take_out("do")
        self.check_told(board, "do", laying, ("NoWord", "do"))
        self.book = Book([])
        self.check_told(board, "cat", ((0, 0, "a"), (0, 1, "t")), ("NoWord", "at"))

    def test_a_word_of_nine_letters_from_edge_to_edge(self):
        self.book = Book(["abcdefghi"])
        board = plain(("a.......i",))
        laying = tuple((0, column, "abcdefghi"[column]) for column in range(1, 8))
        self.check_told(board, "bcdefgh", laying, None)
        self.check_told(board.turned(), "hgfedcb", turned_laying(laying), None)

    def test_the_refusals_are_those_of_the_errors_module(self):
        board = plain(("c..", "..."))
        for kind, rack, laying in (
            (NoLaying, "cat", ()), (Taken, "cat", ((0, 0, "c"),)), (Crooked, "cat", ((0, 1, "c"), (1, 2, "a"))),
            (Gap, "cat", ((1, 0, "c"), (1, 2, "a"))), (Apart, "cat", ((1, 1, "c"),)), (Lacking, "c", ((0, 1, "a"),)),
            (NoWord, "cat", ((0, 1, "a"),)),
        ):
            with self.subTest(kind=kind.__name__):
                with self.assertRaises(kind):
                    check_laying(board, self.book, rack, laying)


# For each pair of rules a laying that breaks both, and what is told. All with the rack "cat" and the words "cat", "at".
PAIRS = (
    ("NoLaying", "Taken", ("c..", "..."), (0, 0), ((0, 1, "a"), (0, 0, "c")), ("NoLaying",)),
    ("NoLaying", "Crooked", ("...", "..."), (0, 0), ((1, 1, "t"), (0, 0, "a")), ("NoLaying",)),
    ("NoLaying", "Gap", ("...", "..."), (0, 0), ((0, 2, "t"), (0, 0, "a")), ("NoLaying",)),
    ("NoLaying", "Apart", ("...", "..."), (0, 0), ((1, 1, "t"), (1, 0, "a")), ("NoLaying",)),
    ("NoLaying", "Lacking", ("...", "..."), (0, 0), ((0, 1, "x"), (0, 0, "c")), ("NoLaying",)),
    ("NoLaying", "NoWord", ("...", "..."), (0, 0), ((0, 1, "a"), (0, 0, "c")), ("NoLaying",)),
    ("Taken", "Crooked", ("...", ".c."), (0, 0), ((0, 0, "a"), (1, 1, "t")), ("Taken", 1, 1)),
    ("Taken", "Gap", ("...", "..c"), (0, 0), ((1, 0, "a"), (1, 2, "t")), ("Taken", 1, 2)),
    ("Taken", "Apart", ("...", "..c"), (0, 0), ((1, 2, "c"),), ("Taken", 1, 2)),
    ("Taken", "Lacking", ("...", ".cc"), (0, 0), ((1, 2, "x"),), ("Taken", 1, 2)),
    ("Taken", "NoWord", ("...", ".xx"), (0, 0), ((1, 2, "c"),), ("Taken", 1, 2)),
    ("Crooked", "Gap", ("...", "..."), (0, 0), ((0, 0, "a"), (0, 2, "t"), (1, 2, "c")), ("Crooked",)),
    ("Crooked", "Apart", ("...", "..."), (0, 0), ((0, 1, "a"), (1, 2, "t")), ("Crooked",)),
    ("Crooked", "Lacking", ("...", "..."), (0, 0), ((0, 0, "a"), (1, 1, "x")), ("Crooked",)),
    ("Crooked", "NoWord", ("...", "..."), (0, 0), ((0, 0, "c"), (1, 1, "a")), ("Crooked",)),
    ("Gap", "Apart", ("...", "..."), (0, 0), ((1, 0, "a"), (1, 2, "t")), ("Gap", 1, 1)),
    ("Gap", "Lacking", ("...", "..."), (0, 0), ((0, 0, "x"), (0, 2, "t")), ("Gap", 0, 1)),
    ("Gap", "NoWord", ("...", "..."), (0, 0), ((0, 0, "c"), (0, 2, "a")), ("Gap", 0, 1)),
    ("Apart", "Lacking", ("...", "..."), (0, 0), ((1, 0, "a"), (1, 1, "T")), ("Apart",)),
    ("Apart", "NoWord", ("c..", "..."), (0, 0), ((1, 1, "t"), (1, 2, "a")), ("Apart",)),
    ("Lacking", "NoWord", ("c..", "..."), (0, 0), ((0, 1, "a"), (0, 2, "b")), ("Lacking", "b")),
)


def breaks(rule, rows, begin, laying):
    """Whether this rule by itself is broken; of a laying that doesn't rise, by its triples, sorted."""
    if rule == "NoLaying":
        return laying != tuple(sorted(laying))
    laying = tuple(sorted(laying))
    if rule == "Gap" and crooked_by(laying):
        across = [triple for triple in laying if triple[0] == laying[0][0]]
        return bool(gap_by(rows, across))
    told = {
        "Taken": taken_by(rows, laying), "Crooked": crooked_by(laying), "Gap": gap_by(rows, laying),
        "Apart": apart_by(rows, begin, laying), "Lacking": lacking_by("cat", laying),
        "NoWord": no_word_by(rows, ("at", "cat"), laying),
    }
    return bool(told[rule])


class TestPairs(RulesCase):
    def test_each_pair_is_there(self):
        self.assertEqual([pair[:2] for pair in PAIRS], list(itertools.combinations(ORDER, 2)))
        for name in ORDER:
            self.assertTrue(issubclass(getattr(errors, name), RackError))

    def test_each_breaks_both(self):
        for first, second, rows, begin, laying, _ in PAIRS:
            with self.subTest(first=first, second=second):
                self.assertTrue(breaks(first, rows, begin, laying))
                self.assertTrue(breaks(second, rows, begin, laying))

    def test_the_first_one_goes_first(self):
        self.book = Book(["cat", "at"])
        for first, second, rows, begin, laying, told in PAIRS:
            with self.subTest(first=first, second=second):
                self.assertEqual(told[0], first)
                self.check_told(plain(rows, begin), "cat", laying, told)
                if first != "NoLaying":
                    self.check_told(plain(rows, begin).turned(), "cat", turned_laying(laying), turned_told(told))


def turned_told(told):
    return (told[0], told[2], told[1]) if told[0] in ("Taken", "Gap") else told


class TestAllLayings(unittest.TestCase):
    """All layings of up to four of three signs on small boards, many on greater ones, by the rules told once more."""

    def check_all(self, rows, begin, words, rack, signs, many):
        board, book = plain(rows, begin), Book(words)
        cells = [(row, column) for row in range(len(rows)) for column in range(len(rows[0]))]
        seen = set()
        for chosen in itertools.chain(*[itertools.combinations(cells, long) for long in range(1, many + 1)]):
            for laid in itertools.product(signs, repeat=len(chosen)):
                laying = laying_of(chosen, laid)
                told = (broken(rows, begin, words, rack, laying) or [None])[0]
                self.assertEqual(answer(board, book, rack, laying), told, (rows, laying))
                seen.add(told and told[0])
        return seen

    def test_all_of_small_boards(self):
        words = ("aa", "ab", "aba", "bab")
        seen = set()
        for rows in (
            ("...", "..."), ("a..", "..."), (".b.", "..."), ("a.b", "..."), ("A..", "..b"), ("....",), ("a.b.",),
        ):
            for rack in ("ab?", "aab"):
                seen |= self.check_all(rows, (0, 1), words, rack, "abA", 4)
        self.assertEqual(seen, set(ORDER[1:]) | {None})

    def test_a_board_without_free_cells(self):
        self.assertEqual(self.check_all(("ab", "ba"), (0, 0), ("ab", "ba"), "ab?", "abA", 4), {"Taken"})

    def test_many_of_greater_boards(self):
        source = random.Random(14)
        words = ["".join(letters) for long in (2, 3, 4) for letters in itertools.product("ab", repeat=long)]
        seen = {}
        for _ in range(4000):
            rows, laying = random_straight(source)
            if source.randrange(3) == 0:
                rows = ("." * len(rows[0]),) * len(rows)
            laying = laying[:7]
            begin = (source.randrange(len(rows)), source.randrange(len(rows[0])))
            known = source.sample(words, 20)
            rack = "".join(source.choice("aabb?") for _ in range(source.randint(2, 7)))
            told = (broken(rows, begin, known, rack, laying) or [None])[0]
            with self.subTest(rows=rows, laying=laying, rack=rack):
                board = plain(rows, begin)
                self.assertEqual(answer(board, Book(known), rack, laying), told)
                turned = answer(board.turned(), Book(known), rack, turned_laying(laying))
                if told and told[0] == "NoWord":
                    # Of one sign's two words the other one may stand ahead.
                    self.assertEqual(turned[0], "NoWord")
                else:
                    self.assertEqual(turned, told and turned_told(told))
            seen[told and told[0]] = seen.get(told and told[0], 0) + 1
        self.assertGreater(seen[None], 50)
        self.assertGreater(seen["NoWord"], 50)


if __name__ == "__main__":
    unittest.main()
