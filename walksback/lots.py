"""Lots: some unlike words, in the sequence of words."""

from walksback.basics import in_sequence, is_letter, is_list, is_word
from walksback.errors import InvalidLot, InvalidNames, InvalidWord, InvalidWords, TooMany, UnknownWord


class Lot:
    """Some unlike words, perhaps none. A Lot never changes."""

    MOST_WORDS = 10
    MOST_LETTERS = 12

    def __init__(self, words=()):
        check_lot_words(words)
        self._words = in_sequence(words)

    def words(self):
        """The list of the words: shorter ones first."""
        return list(self._words)

    def letters(self):
        """The string of the letters that the words have, each once, rising."""
        return "".join(sorted(set("".join(self._words))))

    def longest(self):
        """How many letters the longest words have; 0 without words."""
        return max([len(word) for word in self._words], default=0)

    def shortest(self):
        """How many letters the shortest words have; 0 without words."""
        return min([len(word) for word in self._words], default=0)

    def renamed(self, names):
        """The Lot with other letters: names tells the new letter for each one that the words have."""
        if not is_renaming(names, self.letters()):
            raise InvalidNames(names)
        return Lot(["".join([names[letter] for letter in word]) for word in self._words])

    def backwards(self):
        """The Lot of the words read backwards."""
        return Lot([word[::-1] for word in self._words])

    def is_within(self, other):
        """Whether all words of this Lot are words of the other one."""
        check_lot(other)
        return all([word in other for word in self._words])

    def __len__(self):
        return len(self._words)

    def __contains__(self, x):
        return isinstance(x, str) and x in self._words

    def __iter__(self):
        return iter(self._words)

    def __eq__(self, other):
        return isinstance(other, Lot) and self._words == other._words

    def __repr__(self):
        return f"Lot({self._words!r})"

    def __add__(self, other):
        if not is_lot_word(other) or other in self._words:
            raise InvalidWord(other)
        return Lot([*self._words, other])

    def __sub__(self, other):
        if other not in self:
            raise UnknownWord(other)
        return Lot([word for word in self._words if word != other])

    def __or__(self, other):
        check_lot(other)
        return Lot(self._words + [word for word in other._words if word not in self._words])

    def __and__(self, other):
        check_lot(other)
        return Lot([word for word in self._words if word in other._words])


def is_lot_word(value):
    """Whether any value is a word that may stand in a Lot."""
    return is_word(value) and len(value) <= Lot.MOST_LETTERS


def check_lot_words(words):
    """Raises the errors of what is passed as the words of a Lot."""
    if not is_list(words):
        raise InvalidWords(None)
    ahead = {}
    for position, word in enumerate(words):
        if not is_lot_word(word) or word in ahead:
            raise InvalidWords(position)
        ahead[word] = True
    if len(words) > Lot.MOST_WORDS:
        raise TooMany("words", Lot.MOST_WORDS)


def check_lot(value):
    """Raises InvalidLot unless this is a Lot."""
    if not isinstance(value, Lot):
        raise InvalidLot(value)


def is_renaming(names, letters):
    """Whether any value is a dict from just these letters to unlike letters."""
    if not isinstance(names, dict):
        return False
    if not all([is_letter(letter) for letter in names]):
        return False
    if not all([is_letter(name) for name in names.values()]):
        return False
    return "".join(sorted(names)) == letters and len(set(list(names.values()))) == len(names)
