"""Turned beginnings [5], machines and their numbering [6], tables [7]."""

import random
import unittest

from letterrack.machines import Machine, turned_beginnings
from tests.helper import check_least

SOME_SETS = (
    (),
    ("",),
    ("+",),
    ("a",),
    ("", "a"),
    ("a", "b"),
    ("ab", "b"),
    ("ab", "cb", "b"),
    ("", "a", "aa", "aaa"),
    ("a+", "+a", "a", "+"),
    ("ab+", "ab", "aba", "+++"),
    ("tap", "taps", "top", "tops"),
    ("c+at", "ac+t", "tac+"),
    ("z+", "a+", "m+", "zz", "az"),
    ("abcdefghijkl", "zbcdefghijkl", "bcdefghijkl"),
)


def random_texts(source, signs, most_long, most_many):
    texts = set()
    for _ in range(source.randint(0, most_many)):
        texts.add("".join(source.choice(signs) for _ in range(source.randint(0, most_long))))
    return list(texts)


class TestTurnedBeginnings(unittest.TestCase):
    def test_cat(self):
        self.assertEqual(turned_beginnings("cat"), ("c+at", "ac+t", "tac+"))

    def test_two_letters(self):
        self.assertEqual(turned_beginnings("ox"), ("o+x", "xo+"))

    def test_nine_letters(self):
        self.assertEqual(
            turned_beginnings("abcdefghi"),
            (
                "a+bcdefghi", "ba+cdefghi", "cba+defghi", "dcba+efghi", "edcba+fghi",
                "fedcba+ghi", "gfedcba+hi", "hgfedcba+i", "ihgfedcba+",
            ),
        )

    def test_like_letters(self):
        self.assertEqual(turned_beginnings("aaa"), ("a+aa", "aa+a", "aaa+"))


class TestTable(unittest.TestCase):
    def test_no_texts(self):
        self.assertEqual(Machine([]).table(), ((False, ()),))
        self.assertEqual(Machine(()).table(), ((False, ()),))

    def test_the_text_without_signs(self):
        self.assertEqual(Machine([""]).table(), ((True, ()),))
        self.assertEqual(Machine(["a", ""]).table(), ((True, (("a", 1),)), (True, ())))

    def test_plus_stands_ahead_of_the_letters(self):
        self.assertEqual(
            Machine(["ab", "+", "za"]).table(),
            (
                (False, (("+", 1), ("a", 2), ("z", 3))),
                (True, ()),
                (False, (("b", 1),)),
                (False, (("a", 1),)),
            ),
        )

    def test_states_are_numbered_as_they_are_first_come_to(self):
        # Numbered depth first, or from the ends, the state behind b were another one.
        self.assertEqual(
            Machine(["bxq", "ayr", "az"]).table(),
            (
                (False, (("a", 1), ("b", 2))),
                (False, (("y", 3), ("z", 4))),
                (False, (("x", 5),)),
                (False, (("r", 4),)),
                (True, ()),
                (False, (("q", 4),)),
            ),
        )

    def test_states_that_let_by_the_same_are_one(self):
        self.assertEqual(
            Machine(["tap", "top", "taps", "tops"]).table(),
            (
                (False, (("t", 1),)),
                (False, (("a", 2), ("o", 2))),
                (False, (("p", 3),)),
                (True, (("s", 4),)),
                (True, ()),
            ),
        )

    def test_an_end_and_another_state_are_not_one(self):
        self.assertEqual(
            Machine(["a", "ax", "bx"]).table(),
            (
                (False, (("a", 1), ("b", 2))),
                (True, (("x", 3),)),
                (False, (("x", 3),)),
                (True, ()),
            ),
        )

    def test_the_turned_beginnings_of_cat(self):
        self.assertEqual(
            Machine(turned_beginnings("cat")).table(),
            (
                (False, (("a", 1), ("c", 2), ("t", 3))),
                (False, (("c", 4),)),
                (False, (("+", 5),)),
                (False, (("a", 6),)),
                (False, (("+", 7),)),
                (False, (("a", 7),)),
                (False, (("c", 8),)),
                (False, (("t", 9),)),
                (False, (("+", 9),)),
                (True, ()),
            ),
        )

    def test_some_sets_have_the_least_machine(self):
        for texts in SOME_SETS:
            with self.subTest(texts=texts):
                check_least(self, Machine(texts).table(), texts)

    def test_random_sets_have_the_least_machine(self):
        source = random.Random(1)
        for signs, most_long, most_many in (("+ab", 4, 12), ("+abz", 6, 30), ("a", 12, 9), ("+q", 12, 40)):
            for _ in range(60):
                texts = random_texts(source, signs, most_long, most_many)
                with self.subTest(texts=texts):
                    check_least(self, Machine(texts).table(), texts)

    def test_as_many_and_as_long_texts_as_are_told_and_some_more(self):
        source = random.Random(2)
        for signs, long, many in (("+abcdefghijklmnopqrstuvwxyz", 12, 600), ("+ab", 12, 600), ("ab", 14, 700)):
            texts = set()
            while len(texts) < many:
                texts.add("".join(source.choice(signs) for _ in range(long)))
            with self.subTest(signs=signs, long=long):
                check_least(self, Machine(sorted(texts)).table(), texts)

    def test_lists_tuples_and_other_orders_make_the_same(self):
        source = random.Random(3)
        for texts in SOME_SETS:
            mixed = list(texts)
            source.shuffle(mixed)
            with self.subTest(texts=texts):
                table = Machine(list(texts)).table()
                self.assertEqual(Machine(tuple(texts)).table(), table)
                self.assertEqual(Machine(mixed).table(), table)
                self.assertEqual(Machine(tuple(reversed(texts))).table(), table)

    def test_what_is_handed_in_stays_and_is_not_kept(self):
        texts = ["tac+", "c+at", "ac+t"]
        machine = Machine(texts)
        self.assertEqual(texts, ["tac+", "c+at", "ac+t"])
        table = machine.table()
        texts.clear()
        self.assertEqual(machine.table(), table)
        self.assertTrue(machine.lets_by("c+at"))


class TestSteps(unittest.TestCase):
    def setUp(self):
        self.machine = Machine(["c+at", "ac+t", "tac+"])

    def test_follow_goes_as_the_table_tells(self):
        for texts in SOME_SETS:
            machine = Machine(texts)
            for state, (_, pairs) in enumerate(machine.table()):
                told = dict(pairs)
                for sign in "+abcdefghijklmnopqrstuvwxyz":
                    with self.subTest(texts=texts, state=state, sign=sign):
                        self.assertEqual(machine.follow(state, sign), told.get(sign))

    def test_follow_gives_a_state_also_where_it_is_the_last(self):
        self.assertEqual(self.machine.follow(0, "a"), 1)
        self.assertEqual(self.machine.follow(7, "t"), 9)

    def test_follow_with_a_sign_that_leads_nowhere(self):
        self.assertIsNone(self.machine.follow(0, "b"))
        self.assertIsNone(self.machine.follow(0, "+"))
        self.assertIsNone(self.machine.follow(9, "a"))
        self.assertIsNone(Machine([]).follow(0, "a"))

    def test_follow_with_what_is_no_sign(self):
        for sign in ("", "A", "C", "?", ".", " ", "\n", "1", "ac", "c+", "c+at"):
            with self.subTest(sign=sign):
                self.assertIsNone(self.machine.follow(0, sign))

    def test_ends_are_truths_as_the_table_tells(self):
        for texts in SOME_SETS:
            machine = Machine(texts)
            for state, (is_end, _) in enumerate(machine.table()):
                with self.subTest(texts=texts, state=state):
                    self.assertIs(machine.ends(state), is_end)

    def test_lets_by_just_its_texts(self):
        for texts in SOME_SETS:
            machine = Machine(texts)
            for asked in set().union(*SOME_SETS):
                with self.subTest(texts=texts, asked=asked):
                    self.assertIs(machine.lets_by(asked), asked in texts)

    def test_lets_by_no_piece_and_nothing_longer(self):
        for text in ("", "c", "c+", "c+a", "c+att", "c+at+", "cat", "+cat", "at", "tac"):
            with self.subTest(text=text):
                self.assertIs(self.machine.lets_by(text), False)

    def test_lets_by_no_other_signs(self):
        for text in ("C+at", "c+aT", "c+at\n", " c+at", "c+at ", "c.at", "c?at", "\t"):
            with self.subTest(text=text):
                self.assertIs(self.machine.lets_by(text), False)

    def test_asking_changes_nothing(self):
        table = self.machine.table()
        self.machine.follow(0, "q")
        self.machine.lets_by("c+aq")
        self.machine.ends(0)
        self.assertEqual(self.machine.table(), table)


if __name__ == "__main__":
    unittest.main()
