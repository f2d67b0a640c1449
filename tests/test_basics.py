"""walksback.basics: what is an integer, a count, a letter, a word, a question; the sequence of words."""

import itertools
import unittest

from support import STRANGE, Case, seeded, some_word
from walksback.basics import (
    backwards, in_sequence, is_count, is_integer, is_letter, is_question, is_word,
)
from walksback.errors import InvalidWord, InvalidWords
from walksback.lots import Lot


class KindTest(Case):
    def test_integers(self):
        for value in (0, 1, -1, 10 ** 29, -(10 ** 29)):
            self.is_bool(True, is_integer(value))
        for value in (True, False, None, "1", "", [1], (1,), {1: 1}, b"1", object(), Lot()):
            self.is_bool(False, is_integer(value))

    def test_counts(self):
        for value in (0, 1, 10 ** 29):
            self.is_bool(True, is_count(value))
        for value in (-1, -(10 ** 29), True, False, None, "1", [1], (), {}, b""):
            self.is_bool(False, is_count(value))

    def test_letters(self):
        for value in "abcdefghijklmnopqrstuvwxyz":
            self.is_bool(True, is_letter(value))
        for value in ("", "A", "Z", "`", "{", "aa", "ab", " a", "a ", "a\n", "0", " ", "~", b"a", ["a"], ("a",), 1,
                      True, None, {"a": "a"}):
            self.is_bool(False, is_letter(value), value)

    def test_words(self):
        for value in ("a", "z", "abc", "zzz", "abcdefghijklmnopqrstuvwxyz", "a" * 25, "b" * 20000):
            self.is_bool(True, is_word(value))
        for value in ("", "A", "aB", "a b", "ab\n", "\nab", "a`", "a{", "a1", b"ab", ["a", "b"], ("a",), 3, True, None):
            self.is_bool(False, is_word(value), value)

    def test_questions_have_at_most_24_letters(self):
        for value in ("a", "ab" * 12, "z" * 24, "z" * 23):
            self.is_bool(True, is_question(value))
        for value in ("a" * 25, "ab" * 100, "", "A", "a" * 23 + "A", "a\n", b"a", ["a"], 3, False, None):
            self.is_bool(False, is_question(value), value)

    def test_strange_values_are_nothing(self):
        for value in STRANGE:
            self.is_bool(False, is_letter(value), value)
            self.is_bool(False, is_word(value), value)
            self.is_bool(False, is_question(value), value)

    def test_by_name(self):
        self.assertTrue(is_integer(value=1) and is_count(value=1) and is_letter(value="a"))
        self.assertTrue(is_word(value="ab") and is_question(value="ab"))


class SequenceTest(Case):
    def test_shorter_ones_stand_first(self):
        self.assertEqual(["b", "c", "ab", "ba", "aaa"], in_sequence(["aaa", "ba", "c", "ab", "b"]))
        self.assertEqual(["b", "ab"], in_sequence(("ab", "b")))
        self.assertEqual([], in_sequence([]))
        self.assertEqual([], in_sequence(()))

    def test_equal_ones_stay_as_often_as_they_were(self):
        self.assertEqual(["a", "a", "a", "bb", "bb"], in_sequence(["bb", "a", "a", "bb", "a"]))

    def test_words_may_be_long(self):
        long = "b" * 15000
        self.assertEqual(["z" * 30, long, "c" * 15000], in_sequence(["c" * 15000, long, "z" * 30]))

    def test_each_order_gives_the_same(self):
        for words in itertools.permutations(["b", "a", "ab", "aa", "b"]):
            self.assertEqual(["a", "b", "b", "aa", "ab"], in_sequence(words=words))

    def test_no_list(self):
        for value in (None, True, 0, "ab", "", {"a": 1}, {}, b"ab", Lot(["a"]), object(), iter(["a"]), {"a"}):
            self.fails(InvalidWords, {"position": None}, in_sequence, value)

    def test_the_first_wrong_element(self):
        for value in STRANGE:
            self.fails(InvalidWords, {"position": 0}, in_sequence, [value])
            self.fails(InvalidWords, {"position": 2}, in_sequence, ["b", "a", value, "a", value])
            self.fails(InvalidWords, {"position": 1}, in_sequence, ("b", value, None))

    def test_it_is_a_new_list(self):
        words = ["ab", "b"]
        self.leaves((words,), in_sequence)
        self.tells_anew(lambda: in_sequence(words))
        self.assertIs(list, type(in_sequence(("a", "b"))))


class BackwardsTest(Case):
    def test_words(self):
        self.assertEqual("cba", backwards("abc"))
        self.assertEqual("a", backwards(word="a"))
        self.assertEqual("b" + "a" * 400, backwards("a" * 400 + "b"))
        source = seeded(1)
        for _ in range(50):
            word = some_word(source, "abc", 30)
            self.assertEqual("".join(reversed(word)), backwards(word))
            self.assertEqual(word, backwards(backwards(word)))

    def test_no_word(self):
        self.fails_for_all(InvalidWord, STRANGE + (0, 1, 7, Lot(["a"])), backwards)


if __name__ == "__main__":
    unittest.main()
