"""Words and books [4], putting in and taking out [8], their machines [3], what is handed in and told [2]."""

import random
import unittest

from letterrack.books import Book
from letterrack.errors import NoText, NoWord, RackError, Twice
from letterrack.machines import Machine, turned_beginnings
from tests.helper import check_least

NO_WORDS = (
    "", "a", "abcdefghij", "abcdefghijkl", "Cat", "cAt", "CAT", "caT", "c+at", "ca?", "?at", "c.t", "c-t", "c4t",
    "ca t", " cat", "cat ", "  ", " ", "cat\n", "\ncat", "c\nat", "\n", "\n\n", "cat\t", "a\n", "a`", "a{", "A", "~~",
)


def texts_of(words):
    return [text for word in words for text in turned_beginnings(word)]


def random_word(source, letters):
    return "".join(source.choice(letters) for _ in range(source.randint(2, 9)))


class TestWords(unittest.TestCase):
    def test_words_rise(self):
        self.assertEqual(Book(["tea", "at", "cat", "eat", "ate"]).words(), ("at", "ate", "cat", "eat", "tea"))

    def test_no_words(self):
        for book in (Book([]), Book(())):
            self.assertEqual(book.words(), ())

    def test_list_and_tuple(self):
        self.assertEqual(Book(("cat", "at")).words(), Book(["cat", "at"]).words())

    def test_words_handed_in_twice_are_held_once(self):
        book = Book(["cat", "at", "cat", "cat", "at"])
        self.assertEqual(book.words(), ("at", "cat"))
        book.take_out("cat")
        self.assertEqual(book.words(), ("at",))
        self.assertIs(book.has("cat"), False)

    def test_two_and_nine_letters_are_words(self):
        book = Book(["ab", "abcdefghi", "az", "zzzzzzzzz"])
        self.assertEqual(book.words(), ("ab", "abcdefghi", "az", "zzzzzzzzz"))
        book = Book([])
        book.put_in("za")
        book.put_in("ihgfedcba")
        self.assertEqual(book.words(), ("ihgfedcba", "za"))

    def test_has_is_a_truth(self):
        book = Book(["cat", "at"])
        self.assertIs(book.has("cat"), True)
        self.assertIs(book.has("ca"), False)
        self.assertIs(book.has("cats"), False)

    def test_has_of_a_text_that_is_no_word(self):
        book = Book(["cat", "at"])
        for text in NO_WORDS:
            with self.subTest(text=text):
                self.assertIs(book.has(text), False)

    def test_sixty_words_and_some_more(self):
        letters = "abcdefghi"
        words = [first + second for first in letters for second in letters]
        self.assertEqual(Book(words[:60]).words(), tuple(words[:60]))
        self.assertEqual(Book(words).words(), tuple(words))


class TestPuttingInAndTakingOut(unittest.TestCase):
    def setUp(self):
        self.book = Book(["cat", "at"])

    def check_stays(self):
        self.assertEqual(self.book.words(), ("at", "cat"))
        self.assertEqual(self.book.machine().table(), Machine(texts_of(["at", "cat"])).table())

    def test_put_in(self):
        self.assertIsNone(self.book.put_in("bat"))
        self.assertEqual(self.book.words(), ("at", "bat", "cat"))
        self.assertIs(self.book.has("bat"), True)

    def test_take_out(self):
        self.assertIsNone(self.book.take_out("cat"))
        self.assertEqual(self.book.words(), ("at",))
        self.assertIs(self.book.has("cat"), False)

    def test_put_in_refuses_no_words(self):
        for text in NO_WORDS:
            with self.subTest(text=text):
                with self.assertRaises(NoText):
                    self.book.put_in(text)
                self.check_stays()

    def test_take_out_refuses_no_words(self):
        for text in NO_WORDS:
            with self.subTest(text=text):
                with self.assertRaises(NoText):
                    self.book.take_out(text)
                self.check_stays()

    def test_a_book_with_no_words_among_its_words_is_refused(self):
        for text in NO_WORDS:
            for words in ([text], ["cat", text], [text, "cat"], ("cat", "cat", text, "at")):
                with self.subTest(words=words):
                    with self.assertRaises(NoText):
                        Book(words)

    def test_put_in_refuses_a_word_that_is_there(self):
        with self.assertRaises(Twice):
            self.book.put_in("cat")
        self.check_stays()
        self.book.put_in("bat")
        with self.assertRaises(Twice):
            self.book.put_in("bat")

    def test_take_out_refuses_a_word_that_is_not_there(self):
        for word in ("dog", "ca", "cats", "ta"):
            with self.assertRaises(NoWord) as told:
                self.book.take_out(word)
            self.assertEqual(told.exception.word, word)
            self.check_stays()
        self.book.take_out("cat")
        with self.assertRaises(NoWord) as told:
            self.book.take_out("cat")
        self.assertEqual(told.exception.word, "cat")

    def test_taken_out_it_can_be_put_in_again(self):
        self.book.take_out("cat")
        self.book.put_in("cat")
        self.check_stays()

    def test_refusals_are_rack_errors(self):
        for text in ("cat", "Cat"):
            with self.assertRaises(RackError):
                self.book.put_in(text)
        with self.assertRaises(RackError):
            self.book.take_out("dog")


class TestMachines(unittest.TestCase):
    def test_it_lets_by_just_the_turned_beginnings(self):
        machine = Book(["cat", "at"]).machine()
        for text in ("c+at", "ac+t", "tac+", "a+t", "ta+"):
            with self.subTest(text=text):
                self.assertIs(machine.lets_by(text), True)
        for text in ("", "cat", "at", "cat+", "+cat", "t+a", "t+", "c+a", "ca+t", "ta+c"):
            with self.subTest(text=text):
                self.assertIs(machine.lets_by(text), False)

    def test_it_is_a_machine(self):
        self.assertIsInstance(Book(["cat"]).machine(), Machine)

    def test_of_no_words(self):
        self.assertEqual(Book([]).machine().table(), ((False, ()),))
        book = Book(["cat"])
        book.take_out("cat")
        self.assertEqual(book.machine().table(), ((False, ()),))

    def test_it_is_the_least_one(self):
        source = random.Random(4)
        for letters, many in (("ab", 20), ("abc", 30), ("abcdefghijklmnopqrstuvwxyz", 60), ("ab", 60)):
            words = [random_word(source, letters) for _ in range(many)]
            with self.subTest(words=words):
                check_least(self, Book(words).machine().table(), texts_of(set(words)))

    def test_it_stays_so_whatever_is_put_in_and_taken_out(self):
        source = random.Random(5)
        for letters in ("ab", "aeinrst"):
            book = Book([])
            words = []
            for _ in range(120):
                word = random_word(source, letters)
                if words and source.randint(0, 2) == 0:
                    word = source.choice(words)
                if word in words:
                    words.remove(word)
                    book.take_out(word)
                else:
                    words.append(word)
                    book.put_in(word)
                table = book.machine().table()
                self.assertEqual(book.words(), tuple(sorted(words)))
                self.assertEqual(table, Book(words).machine().table())
                self.assertEqual(table, Machine(texts_of(words)).table())
            check_least(self, book.machine().table(), texts_of(words))

    def test_put_in_and_taken_out_again_the_table_is_as_it_was(self):
        book = Book(["cat", "at", "tea", "eat"])
        table = book.machine().table()
        book.put_in("teacat")
        self.assertNotEqual(book.machine().table(), table)
        book.take_out("teacat")
        self.assertEqual(book.machine().table(), table)
        book.take_out("tea")
        self.assertNotEqual(book.machine().table(), table)
        book.put_in("tea")
        self.assertEqual(book.machine().table(), table)

    def test_a_machine_told_ahead_stays_as_it_was(self):
        book = Book(["cat", "at"])
        machine = book.machine()
        table = machine.table()
        book.put_in("bat")
        book.take_out("cat")
        self.assertEqual(machine.table(), table)
        self.assertIs(machine.lets_by("c+at"), True)
        self.assertIs(machine.lets_by("b+at"), False)
        later = book.machine()
        self.assertIs(later.lets_by("c+at"), False)
        self.assertIs(later.lets_by("b+at"), True)


class TestKeptAndTold(unittest.TestCase):
    def test_a_twin_has_the_same_words(self):
        book = Book(["tea", "cat", "at"])
        twin = book.twin()
        self.assertIsInstance(twin, Book)
        self.assertEqual(twin.words(), ("at", "cat", "tea"))
        self.assertEqual(twin.machine().table(), book.machine().table())
        self.assertEqual(Book([]).twin().words(), ())

    def test_a_twin_and_its_book_change_each_by_its_own_deeds(self):
        book = Book(["cat", "at"])
        twin = book.twin()
        book.put_in("bat")
        book.take_out("at")
        self.assertEqual(twin.words(), ("at", "cat"))
        self.assertIs(twin.has("bat"), False)
        twin.take_out("cat")
        twin.put_in("dog")
        self.assertEqual(book.words(), ("bat", "cat"))
        self.assertEqual(twin.words(), ("at", "dog"))
        self.assertEqual(book.machine().table(), Machine(texts_of(["bat", "cat"])).table())
        self.assertEqual(twin.machine().table(), Machine(texts_of(["at", "dog"])).table())

    def test_a_twin_stands_as_its_book_stands_then(self):
        book = Book(["cat"])
        book.put_in("at")
        book.take_out("cat")
        self.assertEqual(book.twin().words(), ("at",))

    def test_what_is_handed_in_may_be_emptied_behind_it(self):
        words = ["tea", "cat", "at", "cat"]
        book = Book(words)
        self.assertEqual(words, ["tea", "cat", "at", "cat"])
        table = book.machine().table()
        words.clear()
        self.assertEqual(book.words(), ("at", "cat", "tea"))
        self.assertEqual(book.machine().table(), table)

    def test_what_is_handed_in_is_not_changed_by_deeds(self):
        words = ["tea", "cat"]
        book = Book(words)
        book.put_in("at")
        book.take_out("tea")
        self.assertEqual(words, ["tea", "cat"])

    def test_a_refused_list_is_not_changed(self):
        words = ["tea", "Cat", "at"]
        with self.assertRaises(NoText):
            Book(words)
        self.assertEqual(words, ["tea", "Cat", "at"])

    def test_words_told_ahead_stay(self):
        book = Book(["cat"])
        told = book.words()
        book.put_in("at")
        self.assertEqual(told, ("cat",))


if __name__ == "__main__":
    unittest.main()
