"""Worths and bonus [15], what a word of a laying counts, and the points of a laying [16]."""

import random
import string
import unittest

from letterrack.boards import Board
from letterrack.points import points_of, word_points
from letterrack.rules import formed
from letterrack.signs import turned_laying
from tests.helper import crooked_by, gap_by, laying_of, no_marks, parts, plain, plain_points, plain_words, random_rows
from tests.helper import taken_by

WORTHS = {"a": 1, "b": 10, "c": 100, "d": 1000}
NO_BONUS = (8, 0)
ABC = ((0, 0, "a"), (0, 1, "b"), (0, 2, "c"))
LETTER_MARKS = (("2", 2), ("3", 3), ("4", 4))
WORD_MARKS = (("b", 2), ("c", 3), ("d", 4))


def row_of(marks, signs="...."):
    return Board((signs,), (marks,), (0, 0))


class PointsCase(unittest.TestCase):
    def check_points(self, board, laying, points, worths=WORTHS, bonus=NO_BONUS):
        """So many points, also by the turned board; and all stays as it was."""
        kept = (parts(board), list(worths.items()), laying)
        self.assertEqual(points_of(board, worths, bonus, laying), points)
        self.assertEqual(points_of(board.turned(), worths, bonus, turned_laying(laying)), points)
        self.assertEqual((parts(board), list(worths.items()), laying), kept)

    def check_words(self, board, laying, counted, worths=WORTHS):
        words = formed(board, laying)
        self.assertEqual([word_points(board, worths, laying, word) for word in words], counted)
        self.check_points(board, laying, sum(counted), worths)


class TestWorths(PointsCase):
    def test_the_sum_of_the_worths(self):
        self.check_points(row_of("...."), ABC, 111)
        self.check_points(row_of("...."), ((0, 0, "a"), (0, 1, "a")), 2)

    def test_a_letter_that_is_not_in_the_worths_counts_nothing(self):
        self.check_points(row_of("...."), ABC, 101, {"a": 1, "c": 100, "z": 5})
        self.check_points(row_of("...."), ABC, 0, {})
        self.check_points(row_of("24b."), ABC, 0, {"d": 7})

    def test_a_great_letter_counts_nothing(self):
        self.check_points(row_of("...."), ((0, 0, "A"), (0, 1, "b"), (0, 2, "c")), 110)
        self.check_points(row_of("...."), ((0, 0, "a"), (0, 1, "B"), (0, 2, "C")), 1)
        self.check_points(row_of("...."), ((0, 0, "A"), (0, 1, "B"), (0, 2, "C")), 0)

    def test_each_letter_small_and_great(self):
        worths = {letter: at for at, letter in enumerate(string.ascii_lowercase, start=1)}
        for letter, worth in worths.items():
            with self.subTest(letter=letter):
                self.check_points(row_of("...."), ((0, 0, letter), (0, 1, letter)), 2 * worth, worths)
                self.check_points(row_of("...."), ((0, 0, letter.upper()), (0, 1, letter.upper())), 0, worths)

    def test_a_great_letter_counts_nothing_whatever_the_worths_hold(self):
        self.check_points(row_of("...."), ((0, 0, "A"), (0, 1, "b")), 10, {"A": 7, "?": 5, "b": 10})

    def test_what_lay_there_ahead_counts_by_the_same_worths(self):
        self.check_points(row_of("....", ".b.."), ((0, 0, "a"), (0, 2, "c")), 111)
        self.check_points(row_of("....", ".B.."), ((0, 0, "a"), (0, 2, "c")), 101)
        self.check_points(row_of("....", ".z.."), ((0, 0, "a"), (0, 2, "c")), 101)
        self.check_points(row_of("....", "ab.."), ((0, 2, "c"),), 111)

    def test_worths_of_nothing_and_great_ones(self):
        self.check_points(row_of("...."), ABC, 10 ** 6, {"a": 0, "b": 10 ** 6, "c": 0})
        self.check_points(row_of("4d.."), ABC, (4 * 10 ** 6 + 2 * 10 ** 6) * 4, dict.fromkeys("abc", 10 ** 6))

    def test_cells_that_belong_to_no_word_of_the_laying_count_nothing(self):
        self.check_points(plain(("..d", "...", "d..")), ((0, 1, "a"),), 1001)
        self.check_points(plain(("ab.d",)).turned(), ((2, 0, "c"),), 1111)
        self.check_points(plain(("a.d", "b..", "c..")), ((0, 1, "a"),), 1002)


class TestLetterMarks(PointsCase):
    def test_each_under_a_laid_cell(self):
        for mark, times in LETTER_MARKS:
            with self.subTest(mark=mark):
                self.check_points(row_of(mark + "..."), ABC, times + 110)
                self.check_points(row_of("." + mark + ".."), ABC, 101 + 10 * times)
                self.check_points(row_of(".." + mark + "."), ABC, 11 + 100 * times)
                self.check_points(row_of("..." + mark), ABC, 111)

    def test_none_counts_under_what_lay_there_ahead(self):
        for mark, _ in LETTER_MARKS:
            with self.subTest(mark=mark):
                self.check_points(row_of("." + mark + "..", ".b.."), ((0, 0, "a"), (0, 2, "c")), 111)
                self.check_points(row_of(mark + mark + "..", "ab.."), ((0, 2, "c"),), 111)

    def test_several_in_one_word(self):
        self.check_points(row_of("234."), ABC, 2 + 30 + 400)
        self.check_points(row_of("333."), ABC, 333)
        self.check_points(row_of("234.", ".b.."), ((0, 0, "a"), (0, 2, "c")), 2 + 10 + 400)

    def test_under_a_great_letter_and_one_that_is_not_in_the_worths(self):
        for mark, _ in LETTER_MARKS:
            self.check_points(row_of("." + mark + ".."), ((0, 0, "a"), (0, 1, "B"), (0, 2, "c")), 101)
            self.check_points(row_of("." + mark + ".."), ((0, 0, "a"), (0, 1, "z"), (0, 2, "c")), 101)


class TestWordMarks(PointsCase):
    def test_each_under_a_laid_cell(self):
        for mark, times in WORD_MARKS:
            with self.subTest(mark=mark):
                for place in range(3):
                    marks = "." * place + mark + "." * (3 - place)
                    self.check_points(row_of(marks), ABC, 111 * times)
                self.check_points(row_of("..." + mark), ABC, 111)

    def test_none_counts_under_what_lay_there_ahead(self):
        for mark, _ in WORD_MARKS:
            with self.subTest(mark=mark):
                self.check_points(row_of("." + mark + "..", ".b.."), ((0, 0, "a"), (0, 2, "c")), 111)
                self.check_points(row_of(mark + mark + "..", "ab.."), ((0, 2, "c"),), 111)

    def test_what_lay_there_ahead_is_taken_times_too(self):
        for mark, times in WORD_MARKS:
            self.check_points(row_of(".." + mark + ".", "ab.."), ((0, 2, "c"),), 111 * times)
            self.check_points(row_of(mark + "...", ".bc."), ((0, 0, "a"),), 111 * times)

    def test_two_and_three_in_one_word(self):
        for first, some in WORD_MARKS:
            for second, more in WORD_MARKS:
                with self.subTest(marks=first + second):
                    self.check_points(row_of(first + "." + second + "."), ABC, 111 * some * more)
        self.check_points(row_of("bcd."), ABC, 111 * 24)
        self.check_points(row_of("bcd.", ".b.."), ((0, 0, "a"), (0, 2, "c")), 111 * 8)

    def test_with_letter_marks(self):
        self.check_points(row_of("2c.."), ABC, (2 + 10 + 100) * 3)
        self.check_points(row_of("b3d."), ABC, (1 + 30 + 100) * 8)
        self.check_points(row_of("4.b.", "a..."), ((0, 1, "b"), (0, 2, "c")), 222)

    def test_under_a_great_letter_and_one_that_is_not_in_the_worths(self):
        for mark, times in WORD_MARKS:
            self.check_points(row_of("." + mark + ".."), ((0, 0, "a"), (0, 1, "B"), (0, 2, "c")), 101 * times)
            self.check_points(row_of("." + mark + ".."), ((0, 0, "a"), (0, 1, "z"), (0, 2, "c")), 101 * times)


class TestSeveralWords(PointsCase):
    def test_each_word_by_itself(self):
        board = plain((".d..", "....", "..B."))
        self.check_words(board, ((1, 0, "a"), (1, 1, "b"), (1, 2, "c")), [111, 1010, 100])

    def test_a_letter_mark_in_a_cell_of_two_words_counts_in_both(self):
        for mark, times in LETTER_MARKS:
            board = Board((".d..", "...."), ("....", "." + mark + ".."), (0, 0))
            self.check_words(board, ((1, 0, "a"), (1, 1, "b")), [1 + 10 * times, 1000 + 10 * times])

    def test_a_word_mark_in_a_cell_of_two_words_counts_in_both(self):
        for mark, times in WORD_MARKS:
            board = Board((".d..", "...."), ("....", "." + mark + ".."), (0, 0))
            self.check_words(board, ((1, 0, "a"), (1, 1, "b")), [11 * times, 1010 * times])

    def test_a_mark_counts_in_the_words_of_its_cell_alone(self):
        board = Board(("dd.", "..."), ("...", "b3."), (0, 0))
        self.check_words(board, ((1, 0, "a"), (1, 1, "b")), [(1 + 30) * 2, 1001 * 2, 1030])
        board = Board(("dd.", "..."), ("c4.", "..2"), (0, 0))
        self.check_words(board, ((1, 0, "a"), (1, 1, "b")), [11, 1001, 1010])

    def test_one_sign_that_makes_two_words(self):
        board = plain((".a.", "b.c", ".d."))
        self.check_words(board, ((1, 1, "c"),), [210, 1101])
        self.check_words(board, ((1, 1, "C"),), [110, 1001])
        for mark, times in LETTER_MARKS:
            marked = Board(board.rows, ("...", "." + mark + ".", "..."), (0, 0))
            self.check_words(marked, ((1, 1, "c"),), [110 + 100 * times, 1001 + 100 * times])
        for mark, times in WORD_MARKS:
            marked = Board(board.rows, ("...", "." + mark + ".", "..."), (0, 0))
            self.check_words(marked, ((1, 1, "c"),), [210 * times, 1101 * times])
            self.check_words(marked, ((1, 1, "C"),), [110 * times, 1001 * times])

    def test_one_sign_that_makes_one_word(self):
        board = Board(("a..", "..."), (".2.", "b.."), (0, 0))
        self.check_words(board, ((0, 1, "b"),), [21])
        self.check_words(board, ((1, 0, "b"),), [22])

    def test_one_sign_that_makes_none(self):
        board = Board(("...", "..."), ("b2.", "..."), (0, 0))
        self.check_words(board, ((0, 1, "b"),), [])
        self.check_points(board, ((0, 0, "a"),), 7, WORTHS, (1, 7))

    def test_of_seven_signs_down(self):
        rows = (".........",) * 9
        marks = ("2.......b",) + (".........",) * 7 + ("c.......d",)
        laying = tuple((row, 8, "abcdabc"[row]) for row in range(7))
        self.check_words(Board(rows, marks, (0, 0)), laying, [1222 * 2])


class TestBonus(PointsCase):
    def test_just_met_and_missed_by_one(self):
        for many in range(1, 8):
            laying = laying_of([(0, column) for column in range(many)], "abcdabc"[:many])
            board = plain((".........",))
            base = points_of(board, WORTHS, NO_BONUS, laying)
            with self.subTest(many=many):
                self.check_points(board, laying, base + 50, bonus=(many, 50))
                self.check_points(board, laying, base + 50, bonus=(many - 1, 50))
                self.check_points(board, laying, base, bonus=(many + 1, 50))

    def test_many_0(self):
        self.check_points(row_of("...."), ABC, 111 + 9, bonus=(0, 9))
        self.check_points(row_of("....", "ab.."), ((0, 2, "c"),), 111 + 9, bonus=(0, 9))

    def test_more_0_and_great_ones(self):
        self.check_points(row_of("...."), ABC, 111, bonus=(0, 0))
        self.check_points(row_of("...."), ABC, 111 + 10 ** 6, bonus=(3, 10 ** 6))
        self.check_points(row_of("...."), ABC, 111, bonus=(10 ** 6, 10 ** 6))

    def test_what_lay_there_ahead_is_not_among_the_many(self):
        self.check_points(row_of("....", "ab.."), ((0, 2, "c"),), 111, bonus=(2, 50))
        self.check_points(row_of("....", "ab.."), ((0, 2, "c"), (0, 3, "d")), 1161, bonus=(2, 50))

    def test_it_counts_once_and_without_marks(self):
        board = Board((".d..", "dd.."), ("b...", "...."), (0, 0))
        self.check_words(board, ((0, 0, "a"),), [2 * 1001, 2 * 1001])
        self.check_points(board, ((0, 0, "a"),), 4 * 1001 + 5, bonus=(1, 5))

    def test_great_letters_are_among_the_many(self):
        self.check_points(row_of("...."), ((0, 0, "A"), (0, 1, "B")), 50, bonus=(2, 50))


class TestByChance(PointsCase):
    def test_against_the_sum_told_once_more(self):
        source = random.Random(16)
        many = 0
        while many < 600:
            rows = random_rows(source, "...abC")
            cells = [(row, column) for row in range(len(rows)) for column in range(len(rows[0]))]
            start = source.choice(cells)
            line = [cell for cell in cells if cell >= start and cell[many % 2] == start[many % 2]]
            cells = [cell for cell in line[: source.randint(1, 6)] if rows[cell[0]][cell[1]] == "."]
            laying = laying_of(cells, [source.choice("abcdeABE") for _ in cells])
            if not laying:
                continue
            self.assertEqual(taken_by(rows, laying) + crooked_by(laying) + gap_by(rows, laying), [])
            many += 1
            marks = tuple("".join(source.choice("..234bcd") for _ in row) for row in rows)
            board = Board(rows, marks, (0, 0))
            worths = {letter: source.choice((0, 1, 2, 5, 10 ** 6)) for letter in source.sample("abcde", 4)}
            bonus = (source.randint(0, 5), source.randint(0, 60))
            with self.subTest(rows=rows, marks=marks, laying=laying):
                self.check_points(board, laying, plain_points(board, worths, bonus, laying), worths, bonus)
                counted = [word_points(board, worths, laying, word) for word in plain_words(rows, laying)]
                self.assertEqual(sum(counted), plain_points(board, worths, NO_BONUS, laying))

    def test_the_kinds(self):
        board = plain(("a..",))
        laying = ((0, 1, "b"),)
        self.assertIs(type(points_of(board, WORTHS, (1, 5), laying)), int)
        self.assertIs(type(word_points(board, WORTHS, laying, (0, 0, 0, "ab"))), int)
        self.assertEqual(board.marks, no_marks(board.rows))


if __name__ == "__main__":
    unittest.main()
