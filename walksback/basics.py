"""Integers, letters, words and questions; the sequence in which words stand."""

from walksback.errors import InvalidWord, InvalidWords

MOST_QUESTION_LETTERS = 24


def is_integer(value):
    """Whether any value is an INTEGER: True and False are none."""
    return isinstance(value, int) and not isinstance(value, bool)


def is_count(value):
    """Whether any value is an INTEGER that is at least 0."""
    return is_integer(value) and value >= 0


def is_letter(value):
    """Whether any value is one of the letters a to z."""
    return isinstance(value, str) and len(value) == 1 and "a" <= value <= "z"


def is_word(value):
    """Whether any value is a string of one or more letters."""
    return isinstance(value, str) and len(value) > 0 and all([is_letter(letter) for letter in value])


def is_question(value):
    """Whether any value is a word of at most 24 letters."""
    return is_word(value) and len(value) <= MOST_QUESTION_LETTERS


def is_list(value):
    """Whether any value is passed as a list: where one is asked for, a tuple is accepted as well."""
    return isinstance(value, (list, tuple))


def is_rising(values):
    """Whether each of the values, which can be compared, is less than the one behind it."""
    return all([values[place] < values[place + 1] for place in range(len(values) - 1)])


def in_sequence(words):
    """The words as a list: shorter ones first, those of one length as Python compares them."""
    if not is_list(words):
        raise InvalidWords(None)
    for position, word in enumerate(words):
        if not is_word(word):
            raise InvalidWords(position)
    return sorted(words, key=sequence_key)


def sequence_key(word):
    """What the sequence of words hangs on: the length first."""
    return (len(word), word)


def backwards(word):
    """The word read backwards."""
    if not is_word(word):
        raise InvalidWord(word)
    return word[::-1]
