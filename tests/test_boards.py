"""What a board is made of [9], runs and the turned board [10], a board with a laying laid [11]."""

import random
import unittest

from letterrack.boards import Board
from letterrack.errors import NoBoard, RackError
from letterrack.signs import turned_laying
from tests.helper import no_marks, parts, plain

ROWS = ("c.t", "aT.")
MARKS = (".2b", "3c4")
BEGIN = (1, 2)

# No tuple of rows or marks at all, whatever its signs were to be.
NO_BLOCKS = (
    None, True, False, 0, 1, 3, "", ".", "...", (), (None,), (True,), (3,), (("...",),), (("...", "..."),), ((),),
    ("",), ("", ""), ("...", ""), ("", "..."), ("...", None), (None, "..."), ("...", 3), ("...", True),
    ("...", ("...",)), ("...", (".", ".", ".")), ((".", ".", "."), (".", ".", ".")), ("...", ".."), ("..", "..."),
    ("...", "...."), ("...",) * 10, (".",) * 10, ("..........",), ("..........", ".........."), (".",) * 11,
)
NO_ROW_SIGNS = "?+ \n\t0123456789-_@[`{~!,:;#"
NO_MARK_SIGNS = "?+ \n\t0156789-_aefzABCDZ@[`{~!,"
NO_BEGINS = (
    (-1, 0), (0, -1), (-1, -1), (2, 0), (0, 3), (2, 3), (2, 2), (1, 3), (-2, 0), (0, -3), (9, 9), (10 ** 30, 0),
    (0, 10 ** 30), (-(10 ** 30), 0), (True, 0), (0, True), (False, 0), (0, False), (True, True), (False, False),
    ("0", 0), (0, "0"), ("0", "0"), (None, 0), (0, None), (None, None), ((0,), 0), (0, (0,)), ((0, 0),),
    ((0, 0), (0, 0)), (), (0,), (0, 0, 0), (1, 2, "a"), 0, 1, 12, True, False, None, "", "00", "12", "ab",
)


def random_board(source, signs="..abcXY"):
    many, wide = source.randint(1, 9), source.randint(1, 9)
    rows = tuple("".join(source.choice(signs) for _ in range(wide)) for _ in range(many))
    marks = tuple("".join(source.choice(".234bcd") for _ in range(wide)) for _ in range(many))
    return Board(rows, marks, (source.randrange(many), source.randrange(wide)))


class TestMaking(unittest.TestCase):
    def check_refused(self, rows, marks, begin):
        with self.assertRaises(NoBoard):
            Board(rows, marks, begin)

    def test_the_fields_are_what_was_handed_in(self):
        self.assertEqual(parts(Board(ROWS, MARKS, BEGIN)), (ROWS, MARKS, BEGIN))

    def test_the_least_and_the_greatest(self):
        for rows in ((".",), ("a",), ("Z",), (".........",), (".",) * 9, (".........",) * 9, ("abcdEfghi",) * 9):
            begin = (len(rows) - 1, len(rows[0]) - 1)
            with self.subTest(rows=rows):
                self.assertEqual(parts(plain(rows, begin)), (rows, no_marks(rows), begin))

    def test_each_sign_and_each_mark(self):
        letters = "abcdefghijklmnopqrstuvwxyzABCDEFGHIJKLMNOPQRSTUVWXYZ."
        for sign in letters:
            self.assertEqual(plain((sign,)).rows, (sign,))
        for mark in ".234bcd":
            self.assertEqual(Board((".",), (mark,), (0, 0)).marks, (mark,))

    def test_what_lies_there_may_be_no_word(self):
        for rows in (("qqq", "XxX"), ("q..", "..z"), ("a.a", ".a."), ("QQQ", "QQQ")):
            self.assertEqual(plain(rows).rows, rows)

    def test_begin_is_each_cell_and_need_not_be_free(self):
        for row in range(2):
            for column in range(3):
                self.assertEqual(Board(("abc", "..."), MARKS, (row, column)).begin, (row, column))

    def test_rows_that_are_none(self):
        for rows in NO_BLOCKS:
            with self.subTest(rows=rows):
                self.check_refused(rows, ("...", "..."), (0, 0))
                self.check_refused(rows, rows, (0, 0))

    def test_marks_that_are_none(self):
        for marks in NO_BLOCKS:
            with self.subTest(marks=marks):
                self.check_refused(("...", "..."), marks, (0, 0))

    def test_ten_rows_or_columns_also_where_the_marks_fit(self):
        for rows in ((".",) * 10, ("..........",), ("..........",) * 10):
            self.check_refused(rows, rows, (0, 0))

    def test_rows_with_a_sign_that_is_none(self):
        for sign in NO_ROW_SIGNS:
            for rows in ((sign + "..", "..."), ("...", "." + sign + "."), ("...", ".." + sign), ("abc", "ab" + sign)):
                with self.subTest(rows=rows):
                    self.check_refused(rows, ("...", "..."), (0, 0))

    def test_marks_with_a_sign_that_is_none(self):
        for sign in NO_MARK_SIGNS:
            for marks in ((sign + "..", "..."), ("...", "." + sign + "."), ("...", ".." + sign), ("234", "bc" + sign)):
                with self.subTest(marks=marks):
                    self.check_refused(("...", "..."), marks, (0, 0))

    def test_marks_of_another_size(self):
        for marks in (("...",), ("...",) * 3, ("..", ".."), ("....", "...."), ("..", "..", ".."), ("......",)):
            with self.subTest(marks=marks):
                self.check_refused(("...", "..."), marks, (0, 0))

    def test_begins_that_are_none(self):
        for place, begin in enumerate(NO_BEGINS):
            with self.subTest(place=place):
                self.check_refused(("...", "..."), ("...", "..."), begin)

    def test_begin_by_rows_then_columns(self):
        self.assertEqual(plain(("...", "..."), (1, 2)).begin, (1, 2))
        self.check_refused(("...", "..."), ("...", "..."), (2, 1))

    def test_several_faults_at_once(self):
        for place, thing in enumerate((None, (), "", 0, True, ((),))):
            with self.subTest(place=place):
                self.check_refused(thing, thing, thing)

    def test_the_refusal_is_a_rack_error_that_can_be_shown(self):
        # Python refuses to write so great a number in figures.
        with self.assertRaises(RackError) as told:
            Board(("...",), ("...",), (0, 10 ** 5000))
        self.assertIsInstance(str(told.exception), str)


class TestCells(unittest.TestCase):
    def test_at_each_cell(self):
        board = Board(ROWS, MARKS, BEGIN)
        for row in range(2):
            for column in range(3):
                self.assertEqual(board.at(row, column), ROWS[row][column])

    def test_at_beyond_each_edge(self):
        board = plain(("abc", "def"))
        for far in (1, 2, 3, 5, 9, 100, 10 ** 30):
            for row, column in (
                (-far, 0), (-far, 2), (0, -far), (1, -far), (1 + far, 0), (1 + far, 2), (0, 2 + far), (1, 2 + far),
                (-far, -far), (1 + far, 2 + far), (-far, 2 + far), (1 + far, -far),
            ):
                with self.subTest(row=row, column=column):
                    self.assertEqual(board.at(row, column), ".")

    def test_is_free(self):
        self.assertIs(plain((".",)).is_free(), True)
        self.assertIs(plain(("a",)).is_free(), False)
        self.assertIs(plain((".........",) * 9).is_free(), True)
        self.assertIs(plain(("abc", "def")).is_free(), False)
        for row in range(2):
            for column in range(3):
                for sign in "zZ":
                    board = plain(("...", "...")).laid(((row, column, sign),))
                    self.assertIs(board.is_free(), False)

    def test_is_free_whatever_the_marks(self):
        self.assertIs(Board(("...", "..."), ("2b3", "c4d"), (0, 0)).is_free(), True)


class TestRuns(unittest.TestCase):
    def test_across(self):
        board = plain(("ab.cD", ".e...", "fghij"))
        for column in (0, 1):
            self.assertEqual(board.run(0, column, 0), (0, 0, "ab"))
        for column in (3, 4):
            self.assertEqual(board.run(0, column, 0), (0, 3, "cD"))
        self.assertEqual(board.run(1, 1, 0), (1, 1, "e"))
        for column in range(5):
            self.assertEqual(board.run(2, column, 0), (2, 0, "fghij"))

    def test_down(self):
        board = plain(("ab.cD", ".e...", "fghij"))
        self.assertEqual(board.run(0, 0, 1), (0, 0, "a"))
        self.assertEqual(board.run(2, 0, 1), (2, 0, "f"))
        for row in range(3):
            self.assertEqual(board.run(row, 1, 1), (0, 1, "beg"))
        self.assertEqual(board.run(2, 2, 1), (2, 2, "h"))
        self.assertEqual(board.run(0, 4, 1), (0, 4, "D"))
        self.assertEqual(board.run(2, 4, 1), (2, 4, "j"))

    def test_the_nearest_free_cells_bound_it(self):
        board = plain(("a.bc.d.e",))
        for column, told in ((0, "a"), (2, "bc"), (3, "bc"), (5, "d"), (7, "e")):
            self.assertEqual(board.run(0, column, 0), (0, "a.bc.d.e".index(told), told))
        board = board.turned()
        for row, told in ((0, "a"), (2, "bc"), (3, "bc"), (5, "d"), (7, "e")):
            self.assertEqual(board.run(row, 0, 1), ("a.bc.d.e".index(told), 0, told))

    def test_of_one_sign(self):
        for board, cell in ((plain(("x",)), (0, 0)), (plain(("...", ".X.", "...")), (1, 1))):
            for way in (0, 1):
                sign = board.at(cell[0], cell[1])
                self.assertEqual(board.run(cell[0], cell[1], way), (cell[0], cell[1], sign))

    def test_of_the_greatest_board(self):
        board = plain(("abcdefghi",) * 9)
        self.assertEqual(board.run(8, 8, 0), (8, 0, "abcdefghi"))
        self.assertEqual(board.run(8, 8, 1), (0, 8, "iiiiiiiii"))
        self.assertEqual(board.run(0, 0, 1), (0, 0, "aaaaaaaaa"))

    def test_against_going_cell_by_cell(self):
        source = random.Random(9)
        for _ in range(80):
            board = random_board(source)
            held = {(r, c): s for r, line in enumerate(board.rows) for c, s in enumerate(line) if s != "."}
            for row, column in held:
                for way, (down, right) in enumerate(((0, 1), (1, 0))):
                    r, c = row, column
                    while (r - down, c - right) in held:
                        r, c = r - down, c - right
                    first, signs = (r, c), ""
                    while (r, c) in held:
                        signs += held[(r, c)]
                        r, c = r + down, c + right
                    with self.subTest(rows=board.rows, row=row, column=column, way=way):
                        self.assertEqual(board.run(row, column, way), first + (signs,))


class TestTurned(unittest.TestCase):
    def test_rows_marks_and_begin_are_turned(self):
        turned = Board(ROWS, MARKS, BEGIN).turned()
        self.assertEqual(turned.rows, ("ca", ".T", "t."))
        self.assertEqual(turned.marks, (".3", "2c", "b4"))
        self.assertEqual(turned.begin, (2, 1))
        self.assertIsInstance(turned, Board)

    def test_one_row_and_one_cell(self):
        self.assertEqual(parts(Board(("ab.",), ("2.d",), (0, 2)).turned()), (("a", "b", "."), ("2", ".", "d"), (2, 0)))
        self.assertEqual(parts(Board(("a",), ("d",), (0, 0)).turned()), (("a",), ("d",), (0, 0)))

    def test_the_board_stays_as_it_was(self):
        board = Board(ROWS, MARKS, BEGIN)
        board.turned()
        self.assertEqual(parts(board), (ROWS, MARKS, BEGIN))

    def test_random_boards(self):
        source = random.Random(10)
        for _ in range(60):
            board = random_board(source)
            turned = board.turned()
            with self.subTest(rows=board.rows):
                self.assertEqual(parts(turned.turned()), parts(board))
                self.assertEqual(turned.is_free(), board.is_free())
                for row in range(len(board.rows)):
                    for column in range(len(board.rows[0])):
                        self.assertEqual(turned.at(column, row), board.at(row, column))
                        self.assertEqual(turned.marks[column][row], board.marks[row][column])
                        if board.at(row, column) != ".":
                            for way in (0, 1):
                                first, second, signs = board.run(row, column, way)
                                self.assertEqual(turned.run(column, row, 1 - way), (second, first, signs))


class TestLaid(unittest.TestCase):
    def test_the_signs_lie_in_their_cells(self):
        board = Board(ROWS, MARKS, BEGIN)
        laid = board.laid(((0, 1, "A"), (1, 2, "x")))
        self.assertEqual(laid.rows, ("cAt", "aTx"))
        self.assertIsInstance(laid, Board)

    def test_the_first_board_stays_and_marks_and_begin_are_kept(self):
        board = Board(ROWS, MARKS, BEGIN)
        laid = board.laid(((0, 1, "A"),))
        self.assertEqual(parts(board), (ROWS, MARKS, BEGIN))
        self.assertEqual((laid.marks, laid.begin), (MARKS, BEGIN))
        again = laid.laid(((1, 2, "q"),))
        self.assertEqual(laid.rows, ("cAt", "aT."))
        self.assertEqual(again.rows, ("cAt", "aTq"))

    def test_at_the_edges_and_of_seven_signs(self):
        board = plain((".........",) * 9)
        laid = board.laid(((0, 0, "a"), (0, 8, "b"), (8, 0, "c"), (8, 8, "D")))
        self.assertEqual(laid.rows, ("a.......b",) + (".........",) * 7 + ("c.......D",))
        laid = board.laid(tuple((4, column, "abcdefg"[column]) for column in range(7)))
        self.assertEqual(laid.rows[4], "abcdefg..")
        self.assertEqual(plain((".",)).laid(((0, 0, "q"),)).rows, ("q",))

    def test_cells_that_are_not_free_have_the_new_signs(self):
        self.assertEqual(Board(ROWS, MARKS, BEGIN).laid(((0, 0, "z"),)).rows, ("z.t", "aT."))

    def test_the_turned_board_with_the_turned_laying(self):
        source = random.Random(11)
        for _ in range(60):
            board = random_board(source)
            cells = [(row, column) for row in range(len(board.rows)) for column in range(len(board.rows[0]))]
            chosen = sorted(source.sample(cells, min(len(cells), source.randint(1, 7))))
            laying = tuple((row, column, source.choice("abzABZ")) for row, column in chosen)
            with self.subTest(rows=board.rows, laying=laying):
                laid = board.laid(laying)
                self.assertEqual(parts(board.turned().laid(turned_laying(laying))), parts(laid.turned()))
                signs = {(row, column): sign for row, column, sign in laying}
                for row, column in cells:
                    self.assertEqual(laid.at(row, column), signs.get((row, column), board.at(row, column)))


if __name__ == "__main__":
    unittest.main()
