"""Reads lines word by word, and tells the first word that cannot stand where it stands."""

from tinkerhall.errors import BadLine
from tinkerhall.signs import is_name

MOST_DIGITS = 27
MOST_ENTRIES = 2


class Lines:
    """Lines that are read one after the other."""

    def __init__(self, lines):
        self._texts = tuple(lines)
        self._at = 0

    def first_word(self):
        """The first word of the next line; the empty word, which nothing begins with, if there is none."""
        if self._at == len(self._texts):
            return ""
        return _words(self._texts[self._at])[0]

    def begin(self, *allowed):
        """The words of the next line, of which the first, one of those allowed, is taken."""
        if self.first_word() not in allowed:
            raise BadLine(self._at, 0)
        words = Words(self._at, _words(self._texts[self._at]))
        self._at += 1
        return words

    def has_more(self):
        """Whether a line is left."""
        return self._at < len(self._texts)

    def many_taken(self):
        """How many lines were taken so far."""
        return self._at

    def finish(self):
        """Bars a line that is left."""
        if self._at < len(self._texts):
            raise BadLine(self._at, 0)


class Words:
    """The words of a line behind the first one, taken one after the other."""

    def __init__(self, line, words):
        self._line = line
        self._words = words
        self._at = 1

    def coming(self):
        """The next word, or None at the end of the line."""
        return self._words[self._at] if self._at < len(self._words) else None

    def take_word(self, word):
        self._taken(self.coming() == word)

    def take_name(self):
        return self._taken(is_name(self.coming()))

    def take_number(self, low, high):
        return int(self._taken(_is_integer(self.coming(), low, high)))

    def take_digits(self):
        """The signs that are written as digits, one behind the other."""
        word = self.coming()
        good = word is not None and 1 <= len(word) <= MOST_DIGITS and all([digit in "012" for digit in word])
        return tuple([int(digit) for digit in self._taken(good)])

    def take_step(self):
        """The signs of a step, which has one or two, or none, written as `-`."""
        word = self.coming()
        good = word is not None and 1 <= len(word) <= MOST_ENTRIES and all([digit in "012" for digit in word])
        digits = self._taken(good or word == "-")
        return tuple([int(digit) for digit in digits if digit != "-"])

    def finish(self):
        """Bars a word too much."""
        self._taken(self.coming() is None)

    def _taken(self, good):
        """Takes the next word, if it is good."""
        if not good:
            raise BadLine(self._line, self._at)
        word = self.coming()
        self._at += 1
        return word


def _words(text):
    # What is no string is bad at its first word, as the empty word is.
    return text.split(" ") if isinstance(text, str) else [""]


def _is_integer(word, low, high):
    if word is None or not 1 <= len(word) <= len(str(high)) or not all([digit in "0123456789" for digit in word]):
        return False
    return (word == "0" or word[0] != "0") and low <= int(word) <= high
