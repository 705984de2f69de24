"""Whole numbers and signs [2], what is left of a rack [14], turned layings [11]."""

import random
import string
import unittest

from letterrack.errors import Lacking, RackError
from letterrack.signs import is_sign, left_of, letter_of, tile_of, turned_laying

SMALL = string.ascii_lowercase
GREAT = string.ascii_uppercase

NO_SIGNS = (
    "", "ab", "aB", "AB", "aa", "a ", " a", "a\n", "\na", "0", "1", "9", ".", "?", "+", "-", "_", " ", "\n", "\t",
    "@", "[", "`", "{", "~", "!", "abcdefghijklmnopqrstuvwxyz", 0, 1, -1, 97, 65, 10 ** 5000, True, False, None,
    (), ("a",), ("a", "b"), (0, 0, "a"), ((("a",),),), [], ["a"], ["a", "b"], [None], [[]],
)


class TestSigns(unittest.TestCase):
    def test_each_letter_is_a_sign(self):
        for sign in SMALL + GREAT:
            with self.subTest(sign=sign):
                self.assertIs(is_sign(sign), True)

    def test_other_things_are_none(self):
        for place, thing in enumerate(NO_SIGNS):
            with self.subTest(place=place):
                self.assertIs(is_sign(thing), False)

    def test_of_all_texts_of_one_sign_just_the_letters(self):
        told = [sign for sign in string.printable if is_sign(sign)]
        self.assertEqual(sorted(told), sorted(SMALL + GREAT))

    def test_asking_leaves_a_list_as_it_was(self):
        things = ["a", ["b"]]
        is_sign(things)
        self.assertEqual(things, ["a", ["b"]])

    def test_the_letter_of_a_sign_is_it_small(self):
        for small, great in zip(SMALL, GREAT):
            with self.subTest(small=small):
                self.assertEqual(letter_of(small), small)
                self.assertEqual(letter_of(great), small)

    def test_a_letter_takes_its_tile_and_a_great_one_a_blank(self):
        for small, great in zip(SMALL, GREAT):
            with self.subTest(small=small):
                self.assertEqual(tile_of(small), small)
                self.assertEqual(tile_of(great), "?")


class TestLeftOf(unittest.TestCase):
    def check_lacks(self, rack, signs, tile):
        with self.assertRaises(Lacking) as told:
            left_of(rack, signs)
        self.assertEqual(told.exception.tile, tile)

    def test_what_is_left_is_sorted(self):
        self.assertEqual(left_of("taceb", "cat"), "be")
        self.assertEqual(left_of("zyxwvut", "w"), "tuvxyz")
        self.assertEqual(left_of("cab", ""), "abc")

    def test_a_blank_stands_ahead_of_the_letters(self):
        self.assertEqual(left_of("za?c", "c"), "?az")
        self.assertEqual(left_of("b?a?", ""), "??ab")
        self.assertEqual(left_of("b?a?", "Z"), "?ab")

    def test_each_tile_goes_as_often_as_it_is_taken(self):
        self.assertEqual(left_of("aabba", "a"), "aabb")
        self.assertEqual(left_of("aabba", "aa"), "abb")
        self.assertEqual(left_of("aabba", "aba"), "ab")
        self.assertEqual(left_of("aabba", "ababa"), "")

    def test_great_letters_take_blanks_alone(self):
        self.assertEqual(left_of("cat?", "Cat"), "c")
        self.assertEqual(left_of("cat?", "cAt"), "a")
        self.assertEqual(left_of("??", "QX"), "")
        self.assertEqual(left_of("??x", "X"), "?x")
        self.check_lacks("cat", "Cat", "?")
        self.check_lacks("?cat", "CAt", "?")

    def test_small_letters_take_no_blanks(self):
        self.check_lacks("??", "a", "a")
        self.check_lacks("cat?", "catt", "t")

    def test_a_rack_in_any_order(self):
        source = random.Random(6)
        for _ in range(50):
            tiles = list("tea?te?")
            source.shuffle(tiles)
            rack = "".join(tiles)
            with self.subTest(rack=rack):
                self.assertEqual(left_of(rack, "teA"), "?aet")
                self.check_lacks(rack, "tettx", "t")

    def test_the_text_without_signs(self):
        self.assertEqual(left_of("", ""), "")
        self.check_lacks("", "a", "a")
        self.check_lacks("", "A", "?")
        self.assertEqual(left_of("a", "a"), "")
        self.assertEqual(left_of("?", "A"), "")

    def test_the_first_tile_by_the_signs_in_order_is_told(self):
        self.check_lacks("cat", "cxy", "x")
        self.check_lacks("cat", "cyx", "y")
        self.check_lacks("cat", "zXa", "z")
        self.check_lacks("cat", "Xza", "?")
        # One t is there, so of these only the second one lacks.
        self.check_lacks("cat", "tabt", "b")
        self.check_lacks("cat", "tatb", "t")
        self.check_lacks("a?", "BaCa", "?")
        self.check_lacks("a?", "BaaC", "a")

    def test_lacking_is_a_rack_error(self):
        with self.assertRaises(RackError):
            left_of("cat", "dog")

    def test_seven_tiles_and_some_more(self):
        self.assertEqual(left_of("gfedcba", "abcdefg"), "")
        self.assertEqual(left_of("hgfedcba", "bdfh"), "aceg")
        self.check_lacks("abcdefg", "abcdefgh", "h")

    def test_against_counting(self):
        source = random.Random(7)
        for _ in range(500):
            rack = "".join(source.choice("abc?") for _ in range(source.randint(0, 7)))
            signs = "".join(source.choice("abcAB") for _ in range(source.randint(0, 4)))
            tiles = ["?" if sign in GREAT else sign for sign in signs]
            lacking = [tile for place, tile in enumerate(tiles) if tiles[: place + 1].count(tile) > rack.count(tile)]
            with self.subTest(rack=rack, signs=signs):
                if lacking:
                    self.check_lacks(rack, signs, lacking[0])
                else:
                    left = "".join(tile * (rack.count(tile) - tiles.count(tile)) for tile in "?abc")
                    self.assertEqual(left_of(rack, signs), left)


class TestTurnedLaying(unittest.TestCase):
    def test_rows_and_columns_are_exchanged(self):
        self.assertEqual(turned_laying(((2, 5, "a"),)), ((5, 2, "a"),))
        self.assertEqual(turned_laying(((0, 1, "c"), (0, 2, "A"))), ((1, 0, "c"), (2, 0, "A")))

    def test_it_rises_again(self):
        self.assertEqual(turned_laying(((0, 3, "a"), (1, 0, "b"))), ((0, 1, "b"), (3, 0, "a")))
        self.assertEqual(
            turned_laying(((0, 1, "a"), (0, 2, "b"), (1, 0, "c"), (1, 1, "d"))),
            ((0, 1, "c"), (1, 0, "a"), (1, 1, "d"), (2, 0, "b")),
        )

    def test_twice_turned_it_is_the_laying_itself(self):
        source = random.Random(8)
        cells = [(row, column) for row in range(9) for column in range(9)]
        for _ in range(100):
            chosen = sorted(source.sample(cells, source.randint(1, 7)))
            laying = tuple((row, column, source.choice(SMALL + GREAT)) for row, column in chosen)
            turned = turned_laying(laying)
            with self.subTest(laying=laying):
                self.assertIs(type(turned), tuple)
                self.assertEqual({type(triple) for triple in turned}, {tuple})
                self.assertEqual(list(turned), sorted((column, row, sign) for row, column, sign in laying))
                self.assertEqual(turned_laying(turned), laying)


if __name__ == "__main__":
    unittest.main()
