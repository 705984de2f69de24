"""The cross letters of a free cell [17], and the hooks of a board [18]."""

import itertools
import random
import string
import unittest

from letterrack.boards import Board
from letterrack.books import Book
from letterrack.crosses import cross_letters, hooks
from tests.helper import held_cells, parts, plain, plain_run, random_rows

ALL = string.ascii_lowercase


class TestCrossLetters(unittest.TestCase):
    def check_letters(self, rows, words, cell, way, letters):
        """These letters, also by the turned board the other way; and all stays as it was."""
        board, book = plain(rows), Book(words)
        kept = (parts(board), book.words(), book.machine().table())
        self.assertEqual(cross_letters(board, book, cell[0], cell[1], way), letters)
        self.assertEqual(cross_letters(board.turned(), book, cell[1], cell[0], 1 - way), letters)
        self.assertEqual((parts(board), book.words(), book.machine().table()), kept)

    def test_nothing_ahead_and_nothing_behind(self):
        for rows in ((".",), ("...", "...", "..."), ("a.a", "...", "a.a")):
            middle = (len(rows) // 2, len(rows) // 2)
            for words in ((), ("at",), ("aa", "bb")):
                self.check_letters(rows, words, middle, 0, ALL)
                self.check_letters(rows, words, middle, 1, ALL)

    def test_what_lies_in_the_other_way_alone_does_not_count(self):
        rows = (".a.", "...", ".b.")
        self.check_letters(rows, ("axb",), (1, 1), 0, ALL)
        self.check_letters(rows, ("axb",), (1, 1), 1, "x")

    def test_letters_ahead(self):
        words = ("cat", "cab", "cad", "ca", "at", "tca", "cats", "cast")
        self.check_letters(("ca..",), words, (0, 2), 0, "bdt")
        self.check_letters((".ca.",), words, (0, 3), 0, "bdt")
        self.check_letters(("xx", "c.", "ax", ".."), words, (3, 0), 1, "")
        self.check_letters((".x", "c.", "ax", ".."), words, (3, 0), 1, "bdt")

    def test_letters_behind(self):
        words = ("cat", "bat", "at", "ate", "hat", "ata")
        self.check_letters((".at.",), words, (0, 0), 0, "bch")
        self.check_letters(("..at",), words, (0, 1), 0, "bch")
        self.check_letters((".", "a", "t"), words, (0, 0), 1, "bch")

    def test_letters_ahead_and_behind(self):
        words = ("cat", "cut", "cot", "ct", "coat", "cats", "scat")
        self.check_letters(("c.t",), words, (0, 1), 0, "aou")
        self.check_letters((".c.t.",), words, (0, 2), 0, "aou")
        self.check_letters(("c.ts",), words, (0, 1), 0, "a")
        self.check_letters(("sc.t",), words, (0, 2), 0, "a")
        self.check_letters((".", "c", ".", "t"), words, (2, 0), 1, "aou")

    def test_the_next_free_cells_bound_the_run(self):
        self.check_letters(("s.c.t.s",), ("cat", "scats", "cats", "scat"), (0, 3), 0, "a")
        self.check_letters(("c.t.s",), ("cat", "ts", "ats", "tas"), (0, 3), 0, "a")

    def test_great_letters_that_lie_there(self):
        words = ("cat", "cut", "bat")
        self.check_letters(("C.t",), words, (0, 1), 0, "au")
        self.check_letters(("c.T",), words, (0, 1), 0, "au")
        self.check_letters(("C.T",), words, (0, 1), 0, "au")
        self.check_letters((".AT",), words, (0, 0), 0, "bc")
        self.check_letters(("CA.",), words, (0, 2), 0, "t")

    def test_no_letter_that_fits(self):
        self.check_letters(("x..",), ("at", "cat"), (0, 1), 0, "")
        self.check_letters((".x.",), ("at", "cat"), (0, 0), 0, "")
        self.check_letters(("c.q",), ("at", "cat"), (0, 1), 0, "")
        self.check_letters(("a..",), (), (0, 1), 0, "")
        self.check_letters(("q",) * 3 + (".",) + ("z",) * 5, ("at", "cat"), (3, 0), 1, "")

    def test_each_letter_by_itself_and_all_of_them(self):
        for letter in ALL:
            self.check_letters(("a.",), ("a" + letter,), (0, 1), 0, letter)
            self.check_letters((".a",), (letter + "a",), (0, 0), 0, letter)
        self.check_letters(("a.",), tuple("a" + letter for letter in ALL), (0, 1), 0, ALL)

    def test_rising_whatever_the_order_of_the_words(self):
        self.check_letters(("a.",), ("az", "ab", "am", "aa"), (0, 1), 0, "abmz")

    def test_at_each_edge(self):
        words = ("ab", "ba", "ca")
        rows = ("...", ".a.", "...")
        self.check_letters(rows, words, (0, 1), 1, "bc")
        self.check_letters(rows, words, (2, 1), 1, "b")
        self.check_letters(rows, words, (1, 0), 0, "bc")
        self.check_letters(rows, words, (1, 2), 0, "b")
        for cell in ((0, 0), (0, 2), (2, 0), (2, 2)):
            self.check_letters(rows, words, cell, 0, ALL)
            self.check_letters(rows, words, cell, 1, ALL)

    def test_the_other_edge_is_not_next_to_it(self):
        self.check_letters(("..a",), ("ab", "ba"), (0, 0), 0, ALL)
        self.check_letters(("a..",), ("ab", "ba"), (0, 2), 0, ALL)
        self.check_letters(("..a", "..."), ("ab", "ba"), (1, 0), 0, ALL)

    def test_a_run_of_nine(self):
        self.check_letters(("abcd.fghi",), ("abcdefghi", "abcdzfghi", "abcdefgh"), (0, 4), 0, "ez")
        self.check_letters((".bcdefghi",), ("abcdefghi",), (0, 0), 0, "a")
        self.check_letters(("abcdefgh.",), ("abcdefghi",), (0, 8), 0, "i")

    def test_what_lies_there_need_not_be_a_word(self):
        self.check_letters(("xq.",), ("xqa",), (0, 2), 0, "a")

    def test_the_book_is_asked_as_it_stands(self):
        board, book = plain(("a.",)), Book(["ab"])
        self.assertEqual(cross_letters(board, book, 0, 1, 0), "b")
        book.put_in("ad")
        self.assertEqual(cross_letters(board, book, 0, 1, 0), "bd")
        book.take_out("ab")
        self.assertEqual(cross_letters(board, book, 0, 1, 0), "d")

    def test_against_laying_each_letter(self):
        source = random.Random(17)
        words = ["".join(word) for many in (2, 3, 4) for word in itertools.product("abc", repeat=many)]
        for _ in range(120):
            rows = random_rows(source, "...abC")
            known = source.sample(words, 30)
            for row, column, way in itertools.product(range(len(rows)), range(len(rows[0])), (0, 1)):
                if rows[row][column] != ".":
                    continue
                told = ""
                for letter in ALL:
                    held = held_cells(rows) | {(row, column): letter}
                    signs = plain_run(held, (row, column), way, 1 - way)[1]
                    told += letter if len(signs) == 1 or signs.lower() in known else ""
                with self.subTest(rows=rows, cell=(row, column), way=way):
                    self.check_letters(rows, known, (row, column), way, told)


class TestHooks(unittest.TestCase):
    def check_hooks(self, rows, begin, cells):
        """These cells, and the turned ones of the turned board; and the board stays as it was."""
        board = plain(rows, begin)
        kept = parts(board)
        self.assertEqual(hooks(board), cells)
        self.assertEqual(hooks(board.turned()), tuple(sorted((column, row) for row, column in cells)))
        self.assertEqual(parts(board), kept)

    def test_a_free_board_has_begin_alone(self):
        for row, column in itertools.product(range(3), range(4)):
            self.check_hooks(("....",) * 3, (row, column), ((row, column),))

    def test_boards_of_one_cell(self):
        self.check_hooks((".",), (0, 0), ((0, 0),))
        self.check_hooks(("a",), (0, 0), ())
        self.check_hooks(("Z",), (0, 0), ())

    def test_a_board_without_a_free_cell(self):
        self.check_hooks(("ab", "Cd"), (1, 1), ())
        self.check_hooks(("abcdefghi",) * 9, (4, 4), ())

    def test_above_below_left_and_right(self):
        self.check_hooks(("...", ".a.", "..."), (0, 0), ((0, 1), (1, 0), (1, 2), (2, 1)))
        self.check_hooks(("...", ".A.", "..."), (0, 0), ((0, 1), (1, 0), (1, 2), (2, 1)))

    def test_in_each_corner(self):
        self.check_hooks(("a..", "...", "..."), (1, 1), ((0, 1), (1, 0)))
        self.check_hooks(("..a", "...", "..."), (1, 1), ((0, 1), (1, 2)))
        self.check_hooks(("...", "...", "a.."), (1, 1), ((1, 0), (2, 1)))
        self.check_hooks(("...", "...", "..a"), (1, 1), ((1, 2), (2, 1)))

    def test_begin_is_none_where_it_is_not_next_to_anything(self):
        self.check_hooks(("a...",), (0, 3), ((0, 1),))

    def test_begin_that_is_a_hook_is_told_once(self):
        self.check_hooks(("a...",), (0, 1), ((0, 1),))

    def test_begin_that_is_not_free(self):
        self.check_hooks(("a...",), (0, 0), ((0, 1),))
        self.check_hooks((".a..",), (0, 1), ((0, 0), (0, 2)))

    def test_a_cell_next_to_several_is_told_once(self):
        self.check_hooks(("a.a", ".a.", "a.a"), (0, 0), ((0, 1), (1, 0), (1, 2), (2, 1)))

    def test_rising_by_rows_then_columns(self):
        self.check_hooks(
            (".....", "..a..", "....b"), (0, 0), ((0, 2), (1, 1), (1, 3), (1, 4), (2, 2), (2, 3)),
        )

    def test_one_free_cell(self):
        self.check_hooks(("ab", ".c"), (0, 0), ((1, 0),))

    def test_marks_are_no_matter(self):
        self.assertEqual(hooks(Board(("..", ".."), ("2b", "cd"), (1, 0))), ((1, 0),))

    def test_the_kinds(self):
        for told in (hooks(plain(("..",), (0, 1))), hooks(plain(("a.",)))):
            self.assertIs(type(told), tuple)
            self.assertEqual([type(cell) for cell in told], [tuple])
            self.assertEqual([type(part) for part in told[0]], [int, int])

    def test_against_going_round_what_lies_there(self):
        source = random.Random(18)
        for _ in range(300):
            rows = random_rows(source, source.choice((".", "...a", ".aB")))
            begin = (source.randrange(len(rows)), source.randrange(len(rows[0])))
            held = held_cells(rows)
            near = {cell for r, c in held for cell in ((r - 1, c), (r + 1, c), (r, c - 1), (r, c + 1))}
            cells = set(itertools.product(range(len(rows)), range(len(rows[0]))))
            with self.subTest(rows=rows, begin=begin):
                self.check_hooks(rows, begin, tuple(sorted((near & cells) - set(held))) if held else (begin,))


if __name__ == "__main__":
    unittest.main()
