"""All layings [19], those at a cell [20], and what 3 promises of them."""

import itertools
import random
import re
import string
import time
import unittest

from letterrack.boards import Board
from letterrack.books import Book
from letterrack.crosses import hooks
from letterrack.errors import RackError
from letterrack.points import points_of, word_points
from letterrack.rules import check_laying, formed
from letterrack.search import all_layings, layings_at
from letterrack.signs import turned_laying
from tests.helper import can_be_covered, lacking_by, laying_of, no_word_by, parts, plain, plain_layings, plain_points
from tests.helper import random_rows

ALL = string.ascii_lowercase
WORDS = ("ab", "ba", "aa", "aba", "bab", "abba", "cab")


def layings_by_lines(board, words, rack):
    """All layings once more, on greater boards: each piece of a line, the words that go into its run, each as signs."""
    rows, begin = board.rows, board.begin
    told = set()
    for piece in pieces_of(rows):
        if not can_be_covered(rows, begin, piece):
            continue
        for way in (0, 1):
            if len({cell[way] for cell in piece}) > 1:
                continue
            told.update(layings_of_piece(board, words, rack, piece, way))
    return tuple(sorted(told))


def pieces_of(rows):
    lines = [[(row, column) for column in range(len(rows[0]))] for row in range(len(rows))]
    lines += [[(row, column) for row in range(len(rows))] for column in range(len(rows[0]))]
    for line in lines:
        free = [cell for cell in line if rows[cell[0]][cell[1]] == "."]
        for start, end in itertools.combinations(range(len(free) + 1), 2):
            if end - start <= 7:
                yield tuple(free[start:end])


def layings_of_piece(board, words, rack, piece, way):
    row, column, run = board.laid(laying_of(piece, "a" * len(piece))).run(piece[0][0], piece[0][1], way)
    cells = [(row, column + at) if way == 0 else (row + at, column) for at in range(len(run))]
    pattern = "".join("." if cell in piece else sign.lower() for cell, sign in zip(cells, run))
    for word in words:
        if re.fullmatch(pattern, word):
            letters = [word[cells.index(cell)] for cell in piece]
            for signs in itertools.product(*[(letter, letter.upper()) for letter in letters]):
                laying = laying_of(piece, signs)
                if not lacking_by(rack, laying) and not no_word_by(board.rows, words, laying):
                    yield laying


class SearchCase(unittest.TestCase):
    def told(self, board, words, rack):
        """The layings told, in the kinds promised, each once, rising; and all stays as it was."""
        book = Book(words)
        kept = (parts(board), book.words(), book.machine().table())
        layings = all_layings(board, book, rack)
        self.assertEqual((parts(board), book.words(), book.machine().table()), kept)
        self.assertIs(type(layings), tuple)
        for laying in layings:
            self.assertIs(type(laying), tuple)
            for triple in laying:
                self.assertIs(type(triple), tuple)
                self.assertEqual([type(part) for part in triple], [int, int, str])
        self.assertTrue(all(laying < later for laying, later in itertools.pairwise(layings)))
        return layings

    def check_just(self, rows, begin, words, rack, letters=None):
        """Just those that break no rule; the turned ones by the turned board. How many there are."""
        board = plain(rows, begin)
        # A blank stands for each letter of the words, and for one that is in none.
        letters = letters or "".join(sorted(set("".join(words)) | {"y"}))
        with self.subTest(rows=rows, begin=begin, words=words, rack=rack):
            layings = self.told(board, words, rack)
            self.assertEqual(layings, plain_layings(rows, begin, words, rack, letters))
            turned = self.told(board.turned(), words, rack)
            self.assertEqual(turned, tuple(sorted(turned_laying(laying) for laying in layings)))
            return len(layings)


class TestByHand(SearchCase):
    def test_a_free_board(self):
        self.assertEqual(
            self.told(plain(("...",), (0, 1)), ("at", "cat"), "tac"),
            (
                ((0, 0, "a"), (0, 1, "t")),
                ((0, 0, "c"), (0, 1, "a"), (0, 2, "t")),
                ((0, 1, "a"), (0, 2, "t")),
            ),
        )

    def test_across_and_down_through_begin(self):
        self.assertEqual(
            self.told(plain(("..", "..")), ("at",), "at"),
            (((0, 0, "a"), (0, 1, "t")), ((0, 0, "a"), (1, 0, "t"))),
        )

    def test_begin_at_each_edge(self):
        self.assertEqual(self.told(plain(("...",), (0, 0)), ("at",), "at"), (((0, 0, "a"), (0, 1, "t")),))
        self.assertEqual(self.told(plain(("...",), (0, 2)), ("at",), "at"), (((0, 1, "a"), (0, 2, "t")),))
        self.assertEqual(self.told(plain((".", ".", "."), (2, 0)), ("at",), "at"), (((1, 0, "a"), (2, 0, "t")),))
        self.assertEqual(self.told(plain((".", ".", "."), (0, 0)), ("at",), "at"), (((0, 0, "a"), (1, 0, "t")),))

    def test_a_great_letter_stands_ahead_of_a_small_one(self):
        self.assertEqual(
            self.told(plain(("..",)), ("at",), "at??"),
            tuple(laying_of(((0, 0), (0, 1)), signs) for signs in ("AT", "At", "aT", "at")),
        )

    def test_by_one_blank_and_two(self):
        cells = ((0, 0), (0, 1))
        board = plain(("..",))
        self.assertEqual(self.told(board, ("at",), "?"), ())
        self.assertEqual(self.told(board, ("at",), "a?"), (laying_of(cells, "aT"),))
        self.assertEqual(self.told(board, ("at",), "?t"), (laying_of(cells, "At"),))
        self.assertEqual(self.told(board, ("at",), "??"), (laying_of(cells, "AT"),))
        self.assertEqual(
            self.told(board, ("at",), "ta?"), tuple(laying_of(cells, signs) for signs in ("At", "aT", "at"))
        )
        self.assertEqual(self.told(board, ("zz",), "??"), (laying_of(cells, "ZZ"),))
        self.assertEqual(
            self.told(board, ("zz",), "z??"), tuple(laying_of(cells, signs) for signs in ("ZZ", "Zz", "zZ"))
        )

    def test_tiles_go_as_often_as_they_are_there(self):
        board = plain(("....",))
        self.assertEqual(self.told(board, ("tat", "at"), "at"), (laying_of(((0, 0), (0, 1)), "at"),))
        self.assertEqual(len(self.told(board, ("tat", "at"), "att")), 2)

    def test_one_sign_across_down_and_both(self):
        self.assertEqual(self.told(plain(("a.",)), ("at",), "t"), (((0, 1, "t"),),))
        self.assertEqual(self.told(plain(("a", ".")), ("at",), "t"), (((1, 0, "t"),),))
        board = plain((".a", "b."))
        self.assertEqual(self.told(board, ("bt", "at", "ta", "tb"), "t"), (((0, 0, "t"),), ((1, 1, "t"),)))
        self.assertEqual(self.told(board, ("bt", "at", "ta"), "t"), (((1, 1, "t"),),))
        self.assertEqual(self.told(board, ("bt",), "t"), ())

    def test_over_several_runs_that_lie_there(self):
        board = plain(("..b.DE.g.",))
        words = ("abcdefg", "abcdefgh", "bcde")
        self.assertEqual(
            self.told(board, words, "hfca"),
            (
                laying_of(((0, 1), (0, 3), (0, 6)), "acf"),
                laying_of(((0, 1), (0, 3), (0, 6), (0, 8)), "acfh"),
                ((0, 3, "c"),),
            ),
        )

    def test_the_whole_run_must_be_the_word(self):
        self.assertEqual(self.told(plain(("a..",)), ("bc", "cb"), "bc"), ())
        self.assertEqual(self.told(plain(("..a",)), ("bc", "cb"), "bc"), ())
        self.assertEqual(self.told(plain(("..a..",)), ("abc",), "bc"), (laying_of(((0, 3), (0, 4)), "bc"),))

    def test_words_that_lie_there_already_are_no_layings(self):
        self.assertEqual(self.told(plain(("ab",)), ("ab", "ba"), "ab"), ())
        self.assertEqual(self.told(plain(("ab.", "...")), ("ab",), "ab"), (((1, 0, "b"),),))

    def test_a_word_beside_another_one_makes_cross_words(self):
        board = plain(("ab", ".."))
        self.assertEqual(
            self.told(board, ("cd", "ac", "bd"), "cd"),
            (((1, 0, "c"),), ((1, 0, "c"), (1, 1, "d")), ((1, 1, "d"),)),
        )
        self.assertEqual(self.told(board, ("cd", "ac"), "cd"), (((1, 0, "c"),),))
        self.assertEqual(self.told(board, ("cd", "bd"), "cd"), (((1, 1, "d"),),))
        self.assertEqual(self.told(board, ("cd",), "cd"), ())

    def test_where_there_are_none(self):
        for rows in (("...", "..."), ("a..", "..."), ("abc", "def"), (".",), ("a",)):
            self.assertEqual(self.told(plain(rows), (), "ab?"), ())
            self.assertEqual(self.told(plain(rows), WORDS, ""), ())
        self.assertEqual(self.told(plain(("abc", "def")), WORDS, "ab?cdef"), ())
        self.assertEqual(self.told(plain((".",)), WORDS, "ab?"), ())
        self.assertEqual(self.told(plain(("..",)), ("aba",), "aba"), ())

    def test_words_of_nine_letters_on_nine_cells(self):
        words = ("abcdefghi",)
        row = plain(("a.......i",))
        seven = laying_of([(0, column) for column in range(1, 8)], "bcdefgh")
        self.assertEqual(self.told(row, words, "hgfedcb"), (seven,))
        self.assertEqual(self.told(row.turned(), words, "hgfedcb"), (turned_laying(seven),))
        self.assertEqual(len(self.told(row, words, "hgfed??")), 1)
        self.assertEqual(self.told(row, words, "hgfedc"), ())
        self.assertEqual(self.told(plain((".........",)), words, "abcdefg"), ())

    def test_no_laying_of_more_than_seven_whatever_the_rack(self):
        words = ("abcdefgh", "abcdefghi", "abcdefg")
        told = self.told(plain((".........",)), words, "abcdefghi")
        self.assertEqual(told, (laying_of([(0, column) for column in range(7)], "abcdefg"),))
        told = self.told(plain(("a........",)), words, "abcdefghi")
        self.assertEqual([len(laying) for laying in told], [6, 7])

    def test_a_rack_in_any_order(self):
        board = plain(("b..", "..."))
        told = self.told(board, WORDS, "aab?")
        self.assertTrue(told)
        for order in set(itertools.permutations("aab?")):
            self.assertEqual(self.told(board, WORDS, "".join(order)), told)

    def test_where_begin_is_not_free(self):
        self.assertEqual(self.told(plain(("a.",), (0, 0)), ("ab",), "b"), (((0, 1, "b"),),))

    def test_the_words_of_a_long_list(self):
        words = tuple("a" + letter for letter in ALL)
        self.assertEqual(
            self.told(plain(("a.",)), words, "?"), tuple(((0, 1, letter.upper()),) for letter in ALL)
        )


class TestAgainstTheRules(SearchCase):
    """On small boards, for all layings that there could be."""

    def test_free_boards(self):
        many = 0
        for rows, begins in (
            ((".",), ((0, 0),)), (("..",), ((0, 0), (0, 1))), (("....",), ((0, 0), (0, 2), (0, 3))),
            (("..", ".."), ((0, 0), (1, 1))), (("...",) * 3, ((0, 0), (0, 2), (1, 1), (2, 0), (1, 2))),
        ):
            for begin, rack in itertools.product(begins, ("", "a", "ab", "aab", "abb?", "a??")):
                many += self.check_just(rows, begin, WORDS, rack)
        self.assertGreater(many, 300)

    def test_boards_with_something_on_them(self):
        many = 0
        for rows in (
            ("a.",), (".B",), ("a..",), (".b.",), ("a.b",), ("A.b.a",), ("...", ".a.", "..."), ("ab.", "...", "..b"),
            ("b..", "a..", "..."), (".a.", "b.b", ".a."), ("aB", ".."), ("...", "aba", "..."), ("a....", "....b"),
        ):
            for rack in ("", "a", "b", "?", "ab", "aab", "ab?", "b??"):
                many += self.check_just(rows, (0, 0), WORDS, rack)
        self.assertGreater(many, 700)

    def test_boards_with_what_is_no_word_on_them(self):
        many = 0
        for rows in (("zq.", "...", "..."), ("bb.", "b..", "..."), ("..z", "zz.", "..."), ("BBB", "...", "BBB")):
            for rack in ("ab", "aab?", "a??"):
                many += self.check_just(rows, (1, 1), WORDS, rack)
                many += self.check_just(rows, (2, 1), WORDS + ("zqa", "bbb", "za", "bba"), rack)
        self.assertGreater(many, 100)

    def test_boards_without_a_free_cell(self):
        for rows in (("a",), ("ab", "ba"), ("abA", "bZb")):
            self.assertEqual(self.check_just(rows, (0, 0), WORDS, "ab?"), 0)

    def test_books_without_words(self):
        for rows in (("...", "..."), ("a.b", "...")):
            self.assertEqual(self.check_just(rows, (0, 0), (), "ab?"), 0)

    def test_a_blank_may_stand_for_each_letter(self):
        words = ("ax", "xa", "zap", "pa", "by", "qi", "ow")
        for rows in (("...", "..."), ("a..", "..."), ("..y", "i..")):
            for rack in ("?", "??", "p?", "?za"):
                self.check_just(rows, (0, 1), words, rack, ALL)

    def test_one_tile_several_times_and_seven_tiles(self):
        words = ("aa", "aaa", "aaaa", "aaaaaaa", "aaaaaaaa", "ab", "aabaa", "aaaabaa")
        many = 0
        for rows in ((".........",), ("...a.....",), ("a.......a",), ("..a.b...a",), ("........",)):
            for rack in ("aaaaaaa", "aaaaa??", "aaaaaab", "aaaaab?", "aaaa??b"):
                many += self.check_just(rows, (0, 3), words, rack)
        self.assertGreater(many, 300)

    def test_words_of_nine_letters_on_boards_of_nine_cells(self):
        words = ("ababababa", "aababab", "abababaa", "bababab")
        many = 0
        for rows in (("a.......a",), ("ab.......",), (".......ba",), ("a.a...a.a",), (".........",)):
            for rack in ("aaabbbb", "aaabbb?", "aaaabbb", "aabbb??"):
                many += self.check_just(rows, (0, 4), words, rack)
        self.assertGreater(many, 50)

    def test_by_chance(self):
        source = random.Random(19)
        words = ["".join(word) for many in (2, 3, 4) for word in itertools.product("abc", repeat=many)]
        counts = []
        for _ in range(300):
            high, wide = source.choice(((1, 5), (2, 3), (3, 3), (2, 4), (4, 2), (3, 2), (6, 1)))
            signs = source.choice((".", "....a", "..abC", "...aBc"))
            rows = tuple("".join(source.choice(signs) for _ in range(wide)) for _ in range(high))
            begin = (source.randrange(high), source.randrange(wide))
            rack = "".join(source.sample("aaabbbcc??", source.randint(0, 4)))
            counts.append(self.check_just(rows, begin, tuple(source.sample(words, source.randint(0, 60))), rack))
        self.assertGreater(sum(counts), 1000)
        self.assertGreater(counts.count(0), 5)

    def test_greater_boards_by_chance(self):
        source = random.Random(20)
        words = ["".join(word) for many in (2, 3, 4, 5) for word in itertools.product("abc", repeat=many)]
        total = 0
        for _ in range(40):
            high, wide = source.randint(4, 9), source.randint(4, 9)
            signs = source.choice((".", "......a", "....abC"))
            rows = tuple("".join(source.choice(signs) for _ in range(wide)) for _ in range(high))
            board = plain(rows, (source.randrange(high), source.randrange(wide)))
            known = tuple(source.sample(words, 40))
            rack = "".join(source.sample("aaabbbccc??", 7))
            with self.subTest(rows=rows, rack=rack):
                layings = self.told(board, known, rack)
                self.assertEqual(layings, layings_by_lines(board, known, rack))
                total += len(layings)
        self.assertGreater(total, 5000)


class TestAtACell(SearchCase):
    def check_at(self, board, words, rack, row, column):
        book = Book(words)
        kept = (parts(board), book.words(), book.machine().table())
        told = layings_at(board, book, rack, row, column)
        self.assertEqual((parts(board), book.words(), book.machine().table()), kept)
        layings = all_layings(board, book, rack)
        covering = [laying for laying in layings if [triple for triple in laying if triple[:2] == (row, column)]]
        self.assertEqual(told, tuple(covering))
        return len(told)

    def test_at_a_hook(self):
        board = plain(("..b..", "....."))
        for row, column in hooks(board):
            self.assertGreater(self.check_at(board, WORDS, "aab?", row, column), 0)

    def test_at_begin_of_a_free_board(self):
        board = plain(("...", "..."), (1, 1))
        book = Book(WORDS)
        self.assertGreater(self.check_at(board, WORDS, "ab?", 1, 1), 0)
        self.assertEqual(layings_at(board, book, "ab?", 1, 1), all_layings(board, book, "ab?"))

    def test_at_a_free_cell_that_is_no_hook(self):
        board = plain(("b....",))
        self.assertNotIn((0, 2), hooks(board))
        self.assertGreater(self.check_at(board, WORDS, "aab", 0, 2), 0)
        self.assertEqual(self.check_at(board, WORDS, "aab", 0, 4), 0)

    def test_at_a_cell_that_is_not_free(self):
        for rows, cell in ((("b....",), (0, 0)), (("a.b.a",), (0, 2))):
            self.assertEqual(self.check_at(plain(rows), WORDS, "aab", cell[0], cell[1]), 0)

    def test_beyond_the_board(self):
        board = plain(("..a", "..."))
        for row, column in ((-1, 0), (0, -1), (2, 0), (0, 3), (-1, -1), (-2, -3), (9, 9), (1, 10 ** 30)):
            self.assertEqual(layings_at(board, Book(WORDS), "aab?", row, column), ())

    def test_at_each_cell(self):
        board = plain((".b...", ".....", "...a.", "a...."), (0, 0))
        many = [
            self.check_at(board, WORDS, "aab?", row, column)
            for row, column in itertools.product(range(-1, 5), range(-1, 6))
        ]
        self.assertGreater(sum(many), 200)

    def test_the_same_order(self):
        told = layings_at(plain(("b..", "...", "...")), Book(WORDS), "aab?", 1, 1)
        self.assertEqual(told, tuple(sorted(told)))
        self.assertGreater(len(told), 3)

    def test_where_there_are_none(self):
        self.assertEqual(layings_at(plain(("b..",)), Book([]), "aab?", 0, 1), ())
        self.assertEqual(layings_at(plain(("b..",)), Book(WORDS), "", 0, 1), ())
        self.assertEqual(layings_at(plain(("q..",)), Book(WORDS), "aab", 0, 1), ())


class TestTheWhole(SearchCase):
    """What 3 promises of layings, on boards with marks, words on them or not."""

    def boards(self, many):
        source = random.Random(3)
        words = ["".join(word) for long in (2, 3, 4) for word in itertools.product("abc", repeat=long)]
        for _ in range(many):
            rows = random_rows(source, source.choice((".", "....a", "..abC")))
            marks = tuple("".join(source.choice("..234bcd") for _ in row) for row in rows)
            begin = (source.randrange(len(rows)), source.randrange(len(rows[0])))
            rack = "".join(source.sample("aaabbbcc??", source.randint(2, 6)))
            yield Board(rows, marks, begin), source.sample(words, 25), rack

    def test_each_covers_a_hook_and_its_words_are_in_the_book(self):
        for board, words, rack in self.boards(60):
            book = Book(words)
            cells = set(hooks(board))
            for laying in all_layings(board, book, rack):
                self.assertIsNone(check_laying(board, book, rack, laying))
                self.assertTrue(cells & {triple[:2] for triple in laying})
                told = [signs.lower() for _, _, _, signs in formed(board, laying)]
                self.assertTrue(told)
                self.assertLessEqual(set(told), set(words))

    def test_others_are_refused(self):
        source = random.Random(4)
        for board, words, rack in self.boards(60):
            book = Book(words)
            layings = set(all_layings(board, book, rack))
            cells = list(itertools.product(range(len(board.rows)), range(len(board.rows[0]))))
            for _ in range(60):
                chosen = sorted(source.sample(cells, min(len(cells), source.randint(1, 3))))
                laying = laying_of(chosen, [source.choice("abcA") for _ in chosen])
                if laying not in layings:
                    with self.assertRaises(RackError):
                        check_laying(board, book, rack, laying)

    def test_the_turned_board_has_the_turned_layings_with_the_same_points(self):
        worths, bonus = {"a": 1, "b": 3, "c": 20}, (3, 50)
        total = 0
        for board, words, rack in self.boards(60):
            book = Book(words)
            points = {laying: points_of(board, worths, bonus, laying) for laying in all_layings(board, book, rack)}
            turned = all_layings(board.turned(), book, rack)
            self.assertEqual(turned, tuple(sorted(turned_laying(laying) for laying in points)))
            for laying in turned:
                told = points_of(board.turned(), worths, bonus, laying)
                self.assertEqual(told, points[turned_laying(laying)])
                self.assertEqual(told, plain_points(board.turned(), worths, bonus, laying))
            total += len(turned)
        self.assertGreater(total, 500)
        self.assertEqual(worths, {"a": 1, "b": 3, "c": 20})

    def test_points_are_the_plain_sum_of_the_words(self):
        worths = {"a": 1, "b": 3, "c": 20}
        for board, words, rack in self.boards(40):
            for laying in all_layings(board, Book(words), rack):
                counted = [word_points(board, worths, laying, word) for word in formed(board, laying)]
                self.assertEqual(points_of(board, worths, (9, 5), laying), sum(counted))

    def test_a_word_put_in_and_taken_out_again(self):
        brought = 0
        for board, words, rack in self.boards(80):
            book = Book(words[1:])
            ahead = all_layings(board, book, rack)
            book.put_in(words[0])
            now = all_layings(board, book, rack)
            self.assertLessEqual(set(ahead), set(now))
            for laying in set(now) - set(ahead):
                self.assertIn(words[0], [signs.lower() for _, _, _, signs in formed(board, laying)])
            self.assertEqual(now, all_layings(board, Book(words), rack))
            brought += len(now) - len(ahead)
            book.take_out(words[0])
            self.assertEqual(all_layings(board, book, rack), ahead)
        self.assertGreater(brought, 20)

    def test_what_was_told_stays_when_the_book_changes(self):
        board, book = plain(("..",)), Book(["ab"])
        told = all_layings(board, book, "ab")
        at = layings_at(board, book, "ab", 0, 0)
        book.take_out("ab")
        self.assertEqual(told, (((0, 0, "a"), (0, 1, "b")),))
        self.assertEqual(at, told)
        self.assertEqual(all_layings(board, book, "ab"), ())


class TestInSomeSeconds(SearchCase):
    def check_soon(self, board, words, rack):
        start = time.process_time()
        layings = all_layings(board, Book(words), rack)
        self.assertLess(time.process_time() - start, 5)
        return layings

    def test_sixty_words_of_two_letters(self):
        """Few letters and two blanks: very many layings."""
        words = ["".join(word) for many in range(2, 6) for word in itertools.product("ab", repeat=many)][:60]
        source = random.Random(60)
        rows = tuple("".join(source.choice("ab........") for _ in range(9)) for _ in range(9))
        board = plain(rows, (4, 4))
        layings = self.check_soon(board, words, "aabbb??")
        self.assertGreater(len(layings), 10000)
        self.assertEqual(layings, tuple(sorted(set(layings))))

    def test_sixty_long_words(self):
        source = random.Random(61)
        words = sorted({"".join(source.choice("aeinrst") for _ in range(source.randint(5, 9))) for _ in range(60)})
        self.assertEqual(len(words), 60)
        rows = [list(".........") for _ in range(9)]
        for at, word in ((1, words[0]), (4, words[20]), (7, words[40])):
            rows[at][: len(word)] = word
        board = plain(tuple("".join(row) for row in rows), (4, 4))
        layings = self.check_soon(board, words, "aeinr??")
        self.assertEqual(layings, layings_by_lines(board, words, "aeinr??"))


if __name__ == "__main__":
    unittest.main()
