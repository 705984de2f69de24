"""What is left counts by singles and doubles; all leaves of so many tiles, and the best one [21]."""

import itertools
import random
import unittest

from letterrack.leaves import Leaves


class TestCounts(unittest.TestCase):
    def test_the_sum_of_singles(self):
        leaves = Leaves({"a": 3, "b": 20, "?": 100}, {})
        for left, told in (("a", 3), ("b", 20), ("ab", 23), ("?", 100), ("?ab", 123), ("aab", 26), ("??", 200)):
            with self.subTest(left=left):
                self.assertEqual(leaves.counts(left), told)

    def test_nothing_left(self):
        self.assertEqual(Leaves({"a": 3}, {"a": 5}).counts(""), 0)
        self.assertEqual(Leaves({}, {}).counts(""), 0)

    def test_tiles_in_neither_in_one_and_in_both(self):
        leaves = Leaves({"s": 1, "b": 10}, {"d": 100, "b": 1000})
        for left, told in (
            ("n", 0), ("nn", 0), ("nnn", 0), ("s", 1), ("ss", 2), ("sss", 3), ("d", 0), ("dd", 100), ("ddd", 200),
            ("b", 10), ("bb", 1020), ("bbb", 2030), ("bdns", 11), ("bbddnss", 1122),
        ):
            with self.subTest(left=left):
                self.assertEqual(leaves.counts(left), told)

    def test_doubles_for_each_tile_but_one(self):
        leaves = Leaves({"a": 1}, {"a": 10})
        self.assertEqual([leaves.counts("a" * many) for many in range(8)], [0, 1, 12, 23, 34, 45, 56, 67])

    def test_the_blank(self):
        leaves = Leaves({"?": 25}, {"?": -7})
        self.assertEqual([leaves.counts(left) for left in ("?", "??", "?a", "??a")], [25, 43, 25, 43])

    def test_numbers_below_0_and_great_ones(self):
        leaves = Leaves({"a": -4, "b": 10 ** 6, "c": -(10 ** 6)}, {"a": -10, "b": 10 ** 6, "c": -(10 ** 6)})
        for left, told in (
            ("a", -4), ("aa", -18), ("bb", 3 * 10 ** 6), ("ccc", -5 * 10 ** 6), ("abc", -4), ("bbcc", 0),
            ("bbbbbbb", 13 * 10 ** 6),
        ):
            with self.subTest(left=left):
                self.assertEqual(leaves.counts(left), told)

    def test_several_tiles_twice(self):
        leaves = Leaves({}, {"a": 1, "b": 10, "c": 100})
        self.assertEqual([leaves.counts(left) for left in ("aabb", "aabbcc", "abc", "abbccc")], [11, 111, 0, 210])

    def test_dicts_changed_behind_the_making(self):
        singles, doubles = {"a": 1}, {"a": 10}
        leaves = Leaves(singles, doubles)
        singles["a"], doubles["a"], singles["b"] = 500, 500, 500
        self.assertEqual([leaves.counts(left) for left in ("a", "aa", "b")], [1, 12, 0])
        singles.clear()
        doubles.clear()
        self.assertEqual([leaves.counts(left) for left in ("a", "aa", "b")], [1, 12, 0])
        self.assertEqual(leaves.best_of("ab", 1), "a")

    def test_the_dicts_stay_as_they_were(self):
        singles, doubles = {"b": 1, "a": 2}, {"c": 3}
        leaves = Leaves(singles, doubles)
        leaves.counts("aabbccz?")
        leaves.of("aabbccz", 3)
        leaves.best_of("aabbccz", 3)
        self.assertEqual(list(singles.items()), [("b", 1), ("a", 2)])
        self.assertEqual(list(doubles.items()), [("c", 3)])

    def test_two_leaves_are_apart(self):
        first, second = Leaves({"a": 1}, {}), Leaves({"a": 2}, {})
        self.assertEqual((first.counts("a"), second.counts("a")), (1, 2))

    def test_the_same_dict_for_both(self):
        worths = {"a": 5}
        self.assertEqual(Leaves(worths, worths).counts("aaa"), 25)


class TestAllLeaves(unittest.TestCase):
    def test_of_unlike_tiles(self):
        leaves = Leaves({}, {})
        self.assertEqual(leaves.of("abc", 0), ("",))
        self.assertEqual(leaves.of("abc", 1), ("a", "b", "c"))
        self.assertEqual(leaves.of("abc", 2), ("ab", "ac", "bc"))
        self.assertEqual(leaves.of("abc", 3), ("abc",))

    def test_of_like_tiles_each_once(self):
        leaves = Leaves({}, {})
        self.assertEqual(leaves.of("aab", 1), ("a", "b"))
        self.assertEqual(leaves.of("aab", 2), ("aa", "ab"))
        self.assertEqual(leaves.of("aab", 3), ("aab",))
        self.assertEqual(leaves.of("aaa", 2), ("aa",))
        self.assertEqual(leaves.of("aaabb", 3), ("aaa", "aab", "abb"))

    def test_a_blank_stands_ahead_of_the_letters(self):
        self.assertEqual(Leaves({}, {}).of("a?b?", 2), ("??", "?a", "?b", "ab"))

    def test_none_of_a_rack_without_tiles(self):
        leaves = Leaves({"a": 1}, {})
        self.assertEqual(leaves.of("", 0), ("",))
        self.assertEqual(leaves.best_of("", 0), "")

    def test_a_rack_in_any_order(self):
        leaves = Leaves({"c": 2}, {"a": 1})
        for order in set(itertools.permutations("aac?")):
            rack = "".join(order)
            self.assertEqual(leaves.of(rack, 2), ("?a", "?c", "aa", "ac"))
            self.assertEqual(leaves.of(rack, 4), ("?aac",))
            self.assertEqual(leaves.best_of(rack, 2), "?c")
            self.assertEqual(leaves.best_of(rack, 4), "?aac")

    def test_the_kinds(self):
        told = Leaves({}, {}).of("ba", 1)
        self.assertIs(type(told), tuple)
        self.assertEqual([type(text) for text in told], [str, str])
        self.assertIs(type(Leaves({}, {}).best_of("ba", 1)), str)
        self.assertIs(type(Leaves({"a": 1}, {}).counts("a")), int)

    def test_against_choosing_places(self):
        source = random.Random(21)
        for _ in range(150):
            rack = "".join(source.choice("?aabcz") for _ in range(source.randint(0, 7)))
            singles = {tile: source.randint(-3, 3) for tile in source.sample("?abcz", 3)}
            doubles = {tile: source.randint(-3, 3) for tile in source.sample("?abcz", 3)}
            leaves = Leaves(singles, doubles)
            for many in range(len(rack) + 1):
                texts = sorted({"".join(sorted(chosen)) for chosen in itertools.combinations(rack, many)})
                counted = [plain_counts(singles, doubles, text) for text in texts]
                with self.subTest(rack=rack, many=many):
                    self.assertEqual(leaves.of(rack, many), tuple(texts))
                    self.assertEqual([leaves.counts(text) for text in texts], counted)
                    self.assertEqual(leaves.best_of(rack, many), texts[counted.index(max(counted))])


def plain_counts(singles, doubles, left):
    total, seen = 0, set()
    for tile in left:
        total += singles.get(tile, 0) + (doubles.get(tile, 0) if tile in seen else 0)
        seen.add(tile)
    return total


class TestBestLeave(unittest.TestCase):
    def test_the_one_that_counts_the_most(self):
        leaves = Leaves({"a": 1, "b": 5, "c": 3}, {"b": -10, "a": 20})
        self.assertEqual(leaves.best_of("abc", 1), "b")
        self.assertEqual(leaves.best_of("abc", 2), "bc")
        self.assertEqual(leaves.best_of("abbc", 2), "bc")
        self.assertEqual(leaves.best_of("aabbc", 2), "aa")
        self.assertEqual(leaves.best_of("aabbc", 3), "aab")

    def test_of_several_even_ones_the_first(self):
        self.assertEqual(Leaves({}, {}).best_of("cba", 2), "ab")
        self.assertEqual(Leaves({"b": 2, "c": 2}, {}).best_of("cba", 1), "b")
        self.assertEqual(Leaves({"a": -1, "?": -1}, {}).best_of("acb?", 2), "bc")
        self.assertEqual(Leaves({"c": 4, "z": 4}, {}).best_of("zca", 2), "cz")
        self.assertEqual(Leaves({"z": 4}, {}).best_of("zba", 2), "az")

    def test_of_numbers_below_0(self):
        self.assertEqual(Leaves({"a": -5, "b": -2, "c": -9}, {}).best_of("abc", 1), "b")
        self.assertEqual(Leaves({"a": -5, "b": -2, "c": -9}, {}).best_of("abc", 3), "abc")

    def test_none_and_all_of_them(self):
        leaves = Leaves({"a": -5, "b": 2}, {})
        self.assertEqual(leaves.best_of("ab", 0), "")
        self.assertEqual(leaves.best_of("b?a", 3), "?ab")

    def test_seven_tiles(self):
        leaves = Leaves({"?": 25, "s": 8, "q": -6}, {"s": -4, "e": -3})
        self.assertEqual(leaves.best_of("?qsseea", 3), "?ss")
        self.assertEqual(leaves.best_of("?qsseea", 2), "?s")
        self.assertEqual(leaves.best_of("?qsseea", 4), "?ass")
        self.assertEqual(leaves.best_of("?qsseea", 7), "?aeeqss")


if __name__ == "__main__":
    unittest.main()
