"""walksback.base: needless and needed words, bases, further words."""

import unittest
from unittest.mock import ANY

from support import STRANGE, Case, seeded, some_word, some_words
from walksback.base import base, further, is_further, needed, needless
from walksback.errors import InvalidNumber, InvalidWord, NotSettled, Settled
from walksback.lots import Lot
from walksback.settled import is_settled

SOME = Lot(["a", "b", "ab", "abc"])
LESS = Lot(["ab", "bc"])
WRONG_QUESTIONS = STRANGE + ("a" * 25, 0, 1, ["a"], ("a", "b"), Lot(["a"]), ANY)
WRONG_NUMBERS = tuple(value for value in STRANGE if isinstance(value, bool) or not isinstance(value, int)
                      or value < 0) + ("1", [1], (1,), {1: 1}, SOME, ANY)


def joined(words, question):
    """Whether bridges by these words, of any number and length, join the first and the last place."""
    group = list(range(len(question) + 1))
    for word in words:
        for begin in range(len(question) - len(word) + 1):
            if question[begin:begin + len(word)] == word:
                one, other = group[begin], group[begin + len(word)]
                group = [one if number == other else number for number in group]
    return group[0] == group[-1]


def drawn(number, rounds=150):
    """Lots and questions, drawn from a seeded source."""
    source = seeded(number)
    for turn in range(rounds):
        letters = "a" if turn % 4 == 0 else "ab" if turn % 4 < 3 else "abc"
        question = some_word(source, letters, 9)
        words = set(some_words(source, letters, 4, 4))
        for _ in range(source.randint(0, 2)):
            begin = source.randrange(len(question))
            words.add(question[begin:begin + source.randint(1, 6)])
        yield Lot(sorted(words)), question
    yield Lot(), "a"
    yield LESS, "abc"
    yield SOME, "abc"


class BaseTest(Case):
    def test_ordinary(self):
        self.assertEqual([["a", "b", "abc"], ["ab"]], [base(SOME).words(), needless(SOME)])
        self.assertEqual(Lot(["a", "b", "abc"]), base(lot=SOME))
        self.assertEqual(["ab"], needless(lot=SOME))
        self.assertEqual([Lot(), []], [base(Lot()), needless(Lot())])
        self.assertIs(Lot, type(base(SOME)))
        # abc is settled by a step back; of words on a ring of a's, those that shorter ones settle are needless.
        self.assertEqual(["abc"], needless(Lot(["ab", "b", "bc", "abc"])))
        self.assertEqual(["aaaa", "aaaaaa"], needless(Lot(["aa", "aaaa", "aaaaaa", "aaaaa"])))

    def test_against_the_definition(self):
        found = 0
        for lot, _ in drawn(380):
            expected = [word for word in lot.words() if joined([other for other in lot if other != word], word)]
            self.assertEqual(expected, needless(lot))
            self.assertEqual([word for word in lot.words() if word not in expected], base(lot).words())
            # It hangs on shorter words alone.
            self.assertEqual(expected, [word for word in lot.words()
                                        if joined([other for other in lot if len(other) < len(word)], word)])
            found += bool(expected)
        self.assertGreater(found, 20)

    def test_the_base_settles_just_the_same_questions(self):
        source = seeded(381)
        settled = 0
        for lot, question in drawn(381):
            some = base(lot)
            self.assertEqual(some, base(some))
            self.assertEqual([], needless(some))
            for word in (question, *(some_word(source, "ab", 12) for _ in range(5)), *lot):
                self.is_bool(is_settled(lot, word), is_settled(some, word))
                settled += is_settled(lot, word)
        self.assertGreater(settled, 50)

    def test_long_words(self):
        lot = Lot(["a" * size for size in (2, 3, 12, 11, 10, 9, 8, 7, 6, 5)])
        self.assertEqual(["aa", "aaa"], base(lot).words())
        self.assertEqual(["a" * size for size in range(5, 13)], needless(lot))

    def test_what_is_told_is_new(self):
        self.tells_anew(lambda: needless(SOME))
        self.leaves((SOME,), base)


class NeededTest(Case):
    def test_ordinary(self):
        self.assertEqual(["abc"], needed(SOME, "abc"))
        self.assertEqual(["abc"], needed(lot=SOME, question="abc"))
        self.assertEqual(["b", "ab", "bc"], needed(Lot(["ab", "b", "bc"]), "abc"))
        self.assertEqual([], needed(Lot(["a", "b", "ab"]), "ab"))

    def test_against_the_definition(self):
        found = 0
        for lot, question in drawn(382):
            if not joined(lot, question):
                self.fails(NotSettled, {"value": question}, needed, lot, question)
                continue
            expected = [word for word in lot.words() if not joined([other for other in lot if other != word], question)]
            self.assertEqual(expected, needed(lot, question))
            found += bool(expected)
        self.assertGreater(found, 20)

    def test_errors(self):
        self.fails_for_all(InvalidWord, WRONG_QUESTIONS, lambda value: needed(SOME, value))
        self.fails_for_all(InvalidWord, WRONG_QUESTIONS, lambda value: needed(Lot(), value))
        self.fails(NotSettled, {"value": "abc"}, needed, LESS, "abc")
        self.fails(NotSettled, {"value": "a"}, needed, Lot(), "a")
        self.tells_anew(lambda: needed(SOME, "abc"))


class FurtherTest(Case):
    def test_ordinary(self):
        self.assertEqual(["a", "b", "c", "abc"], further(LESS, "abc"))
        self.assertEqual(["a", "b", "c"], further(LESS, "abc", 2))
        self.assertEqual(["a", "b", "c", "abc"], further(lot=LESS, question="abc", most=3))
        self.assertEqual(["a"], further(Lot(), "a"))
        self.assertEqual([], further(Lot(), "a", 0))
        self.is_bool(True, is_further(lot=LESS, question="abc", value="b"))
        self.is_bool(False, is_further(LESS, "abc", "ab"))
        self.is_bool(False, is_further(LESS, "abc", "d"))

    def test_a_word_makes_all_its_bridges_at_once(self):
        self.assertEqual(["a", "aa", "aaaa"], further(Lot(), "aaaa"))
        self.assertEqual(["ab", "abab"], further(Lot(), "abab"))

    def test_against_the_definition(self):
        found = 0
        for lot, question in drawn(383, 250):
            if joined(lot, question):
                self.fails(Settled, {"value": question}, further, lot, question)
                self.fails(Settled, {"value": question}, is_further, lot, question, question)
                continue
            within = {question[begin:end] for end in range(len(question) + 1) for begin in range(end)}
            expected = [word for word in sorted(within, key=lambda word: (len(word), word))
                        if joined([*lot, word], question)]
            self.assertIn(question, expected)
            for most in (0, 1, 2, len(question) - 1, len(question), 24, 25, 10 ** 20):
                self.assertEqual([word for word in expected if len(word) <= most], further(lot, question, most))
            self.assertEqual(expected, further(lot, question))
            for word in within:
                self.is_bool(word in expected, is_further(lot, question, word))
            found += len(expected) > 1
        self.assertGreater(found, 50)

    def test_words_that_are_longer_than_the_words_of_a_lot(self):
        question = "ab" * 6 + "c" * 12
        told = further(Lot(["c"]), question)
        self.assertEqual(question, told[-1])
        self.assertEqual(24, len(told[-1]))
        self.assertEqual(sorted(told, key=lambda word: (len(word), word)), told)
        self.assertIn("ab" * 6 + "c", told)
        self.assertTrue(all(len(word) <= 13 for word in further(Lot(["c"]), question, 13)))
        self.is_bool(True, is_further(Lot(["c"]), question, question[:13]))
        self.is_bool(False, is_further(Lot(["c"]), question, "a" * 13))
        self.is_bool(False, is_further(Lot(["c"]), question, "a" * 30))
        self.is_bool(False, is_further(Lot(["c"]), question, question + "c"))

    def test_lots_of_ten_words(self):
        lot = Lot([letter + "z" for letter in "abcdefghij"])
        self.assertEqual(["xy"], further(lot, "xy"))
        self.is_bool(True, is_further(lot, "xy", "xy"))

    def test_is_further_of_any_value(self):
        for value in STRANGE + ("abcd", ["b"], ("b",), {"b": 1}, Lot(["b"]), 1, 0, b"b", ANY, "B", "b "):
            self.is_bool(False, is_further(LESS, "abc", value), value)
            self.is_bool(False, is_further(Lot(), "abc", value), value)

    def test_errors(self):
        for action in (further, lambda lot, value: is_further(lot, value, None)):
            for lot in (SOME, LESS):
                self.fails_for_all(InvalidWord, WRONG_QUESTIONS, lambda value: action(lot, value))
        self.fails_for_all(InvalidNumber, WRONG_NUMBERS, lambda value: further(LESS, "abc", value))
        self.fails_for_all(InvalidNumber, WRONG_NUMBERS, lambda value: further(SOME, "abc", value))
        for value in STRANGE + ("a", "abc"):
            self.fails(Settled, {"value": "abc"}, is_further, SOME, "abc", value)
        self.sequence(further, {"lot": LESS, "question": "abc", "most": 24}, [
            ({"question": {}}, InvalidWord, {}),
            ({"most": False}, InvalidNumber, {"value": False}),
            ({"lot": SOME}, Settled, {"value": "abc"}),
        ])
        self.tells_anew(lambda: further(LESS, "abc"))
        self.leaves((LESS, "abc", "b"), is_further)


if __name__ == "__main__":
    unittest.main()
