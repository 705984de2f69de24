"""Books of words, each told as a least machine of turned beginnings."""

from letterrack.errors import NoText, NoWord, Twice
from letterrack.machines import Machine, turned_beginnings


def is_word(text):
    return 2 <= len(text) <= 9 and all(["a" <= sign <= "z" for sign in text])


def check_word(text):
    if not is_word(text):
        raise NoText(text)


class Book:
    def __init__(self, words):
        self.held = {}
        for word in words:
            check_word(word)
            self.held[word] = True

    def words(self):
        return tuple(sorted(self.held))

    def has(self, text):
        return text in self.held

    def put_in(self, word):
        check_word(word)
        if word in self.held:
            raise Twice(word)
        self.held[word] = True

    def take_out(self, word):
        check_word(word)
        if word not in self.held:
            raise NoWord(word)
        self.held.pop(word)

    def machine(self):
        # Made anew each time, so that no change of the book reaches a machine that was told.
        texts = []
        for word in self.words():
            texts.extend(turned_beginnings(word))
        return Machine(texts)

    def twin(self):
        return Book(self.words())
