"""A laying's whole, the ranked layings, and the best [22]; that none is above it [3]."""

import itertools
import random
import unittest

from letterrack.best import best_laying, ranked
from letterrack.boards import Board
from letterrack.books import Book
from letterrack.leaves import Leaves
from letterrack.points import points_of
from letterrack.search import all_layings
from letterrack.signs import turned_laying
from tests.helper import lacking_by, laying_of, parts, plain, plain_points, random_rows

NO_LEAVES = Leaves({}, {})
NO_BONUS = (8, 0)
WORTHS = {"a": 1, "b": 5, "c": 20}


class BestCase(unittest.TestCase):
    def told(self, board, words, rack, worths, bonus, leaves):
        """The ranked layings, in the kinds promised, the best their first; and all stays as it was."""
        book = Book(words)
        kept = (parts(board), book.words(), book.machine().table(), list(worths.items()))
        pairs = ranked(board, book, rack, worths, bonus, leaves)
        best = best_laying(board, book, rack, worths, bonus, leaves)
        self.assertEqual((parts(board), book.words(), book.machine().table(), list(worths.items())), kept)
        self.assertIs(type(pairs), tuple)
        for pair in pairs:
            self.assertIs(type(pair), tuple)
            self.assertEqual([type(part) for part in pair], [int, tuple])
        self.assertEqual(best, pairs[0] if pairs else None)
        return pairs


class TestByHand(BestCase):
    def test_the_points_and_what_is_left(self):
        board = plain(("...",))
        leaves = Leaves({"c": 7, "?": 100}, {"b": 1000})
        self.assertEqual(
            self.told(board, ("ab",), "cab", WORTHS, NO_BONUS, leaves), ((6 + 7, laying_of(((0, 0), (0, 1)), "ab")),)
        )
        self.assertEqual(
            self.told(board, ("ab",), "bba?b", WORTHS, NO_BONUS, leaves),
            (
                (1 + 2000, laying_of(((0, 0), (0, 1)), "aB")),
                (6 + 1100, laying_of(((0, 0), (0, 1)), "ab")),
                (5 + 1000, laying_of(((0, 0), (0, 1)), "Ab")),
            ),
        )

    def test_a_greater_whole_stands_ahead(self):
        board = plain(("..", ".."))
        pairs = self.told(board, ("ab", "ac", "aa"), "aabc", WORTHS, NO_BONUS, NO_LEAVES)
        self.assertEqual([whole for whole, _ in pairs], [21, 21, 6, 6, 2, 2])
        self.assertEqual(pairs[0], (21, ((0, 0, "a"), (0, 1, "c"))))

    def test_even_ones_in_the_order_of_all_layings(self):
        board = plain(("...", "...", "..."), (1, 1))
        words = ("ab", "ba", "aa", "aba", "bab")
        layings = all_layings(board, Book(words), "aabb??")
        self.assertEqual(
            self.told(board, words, "aabb??", {}, NO_BONUS, NO_LEAVES), tuple((0, laying) for laying in layings)
        )
        pairs = self.told(board, words, "aabb??", {"a": 1}, NO_BONUS, NO_LEAVES)
        for one, other in itertools.pairwise(pairs):
            self.assertTrue(one[0] > other[0] or (one[0] == other[0] and one[1] < other[1]))
        self.assertGreater(len(pairs) - len({whole for whole, _ in pairs}), 20)

    def test_wholes_below_0(self):
        board = plain(("..",))
        leaves = Leaves({"z": -100, "a": -1, "b": -2}, {"z": -1000})
        self.assertEqual(
            self.told(board, ("ab", "ba"), "abzz", {}, NO_BONUS, leaves),
            ((-1200, laying_of(((0, 0), (0, 1)), "ab")), (-1200, laying_of(((0, 0), (0, 1)), "ba"))),
        )
        self.assertEqual(
            [whole for whole, _ in self.told(board, ("ab", "zb"), "abz", {"a": 5}, NO_BONUS, leaves)], [-1, -95]
        )

    def test_a_laying_of_fewer_points_may_be_the_best(self):
        board = plain(("...",))
        words = ("ab", "abc")
        ab, abc = laying_of(((0, 0), (0, 1)), "ab"), laying_of(((0, 0), (0, 1), (0, 2)), "abc")
        self.assertEqual(best_laying(board, Book(words), "abc", WORTHS, NO_BONUS, NO_LEAVES), (26, abc))
        self.assertEqual(best_laying(board, Book(words), "abc", WORTHS, NO_BONUS, Leaves({"c": 21}, {})), (27, ab))
        self.assertEqual(best_laying(board, Book(words), "abc", WORTHS, NO_BONUS, Leaves({"c": 20}, {})), (26, ab))
        self.assertEqual(best_laying(board, Book(words), "abc", WORTHS, (3, 1), Leaves({"c": 20}, {})), (27, abc))

    def test_the_bonus_and_the_marks_count(self):
        board = Board(("...",), ("..d",), (0, 1))
        pairs = self.told(board, ("ab", "abc"), "abc", WORTHS, (3, 50), NO_LEAVES)
        self.assertEqual([whole for whole, _ in pairs], [26 * 4 + 50, 6 * 4, 6])

    def test_none(self):
        leaves = Leaves({"a": 5}, {"a": 5})
        for rows, words, rack in (
            (("...",), (), "ab"), (("...",), ("ab",), ""), (("ab",), ("ab",), "ab"), (("...",), ("ab",), "ccc"),
            ((".",), ("ab",), "ab"), (("q..",), ("ab",), "ab"),
        ):
            with self.subTest(rows=rows, words=words, rack=rack):
                self.assertEqual(ranked(plain(rows), Book(words), rack, WORTHS, (0, 9), leaves), ())
                self.assertIsNone(best_laying(plain(rows), Book(words), rack, WORTHS, (0, 9), leaves))

    def test_nothing_left(self):
        leaves = Leaves({"a": 5, "b": 7}, {"a": 5})
        self.assertEqual(
            self.told(plain(("..",)), ("ab",), "ba", WORTHS, NO_BONUS, leaves), ((6, ((0, 0, "a"), (0, 1, "b"))),)
        )

    def test_a_rack_in_any_order(self):
        board = plain(("b..", "..."))
        leaves = Leaves({"a": 2, "?": 5}, {"a": -3})
        told = self.told(board, ("ab", "ba", "bab"), "aab?", WORTHS, (2, 3), leaves)
        for order in set(itertools.permutations("aab?")):
            self.assertEqual(self.told(board, ("ab", "ba", "bab"), "".join(order), WORTHS, (2, 3), leaves), told)

    def test_what_was_told_stays_when_the_book_changes(self):
        book = Book(["ab"])
        pairs = ranked(plain(("..",)), book, "ab", WORTHS, NO_BONUS, NO_LEAVES)
        book.take_out("ab")
        self.assertEqual(pairs, ((6, ((0, 0, "a"), (0, 1, "b"))),))


class TestByChance(BestCase):
    def test_against_the_whole_told_once_more(self):
        source = random.Random(22)
        words = ["".join(word) for many in (2, 3, 4) for word in itertools.product("abc", repeat=many)]
        total = 0
        for _ in range(80):
            rows = random_rows(source, source.choice((".", "....a", "..abC")))
            marks = tuple("".join(source.choice("..234bcd") for _ in row) for row in rows)
            board = Board(rows, marks, (source.randrange(len(rows)), source.randrange(len(rows[0]))))
            known = source.sample(words, 25)
            rack = "".join(source.sample("aaabbbcc??", source.randint(2, 7)))
            worths = {letter: source.randint(0, 9) for letter in source.sample("abc", 2)}
            singles = {tile: source.randint(-20, 20) for tile in source.sample("abc?", 3)}
            doubles = {tile: source.randint(-20, 20) for tile in source.sample("abc?", 2)}
            bonus = (source.randint(0, 5), source.randint(0, 30))
            with self.subTest(board=parts(board), rack=rack):
                pairs = self.told(board, known, rack, worths, bonus, Leaves(singles, doubles))
                self.assertEqual(tuple(sorted(laying for _, laying in pairs)), all_layings(board, Book(known), rack))
                for whole, laying in pairs:
                    self.assertEqual(lacking_by(rack, laying), [])
                    left = plain_left(rack, laying)
                    counted = sum(singles.get(tile, 0) for tile in left)
                    counted += sum(doubles.get(tile, 0) * (left.count(tile) - 1) for tile in set(left))
                    self.assertEqual(whole, plain_points(board, worths, bonus, laying) + counted)
                    self.assertEqual(whole, points_of(board, worths, bonus, laying) + counted)
                    self.assertLessEqual(whole, pairs[0][0])
                for one, other in itertools.pairwise(pairs):
                    self.assertLess((-one[0], one[1]), (-other[0], other[1]))
                turned = self.told(board.turned(), known, rack, worths, bonus, Leaves(singles, doubles))
                told = sorted((whole, turned_laying(laying)) for whole, laying in turned)
                self.assertEqual(told, sorted(pairs))
            total += len(pairs)
        self.assertGreater(total, 1000)


def plain_left(rack, laying):
    left = list(rack)
    for _, _, sign in laying:
        left.remove("?" if sign.isupper() else sign)
    return left


if __name__ == "__main__":
    unittest.main()
