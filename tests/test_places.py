"""walksback.places: where words stand, bridges, classes, joined places, places that are come to forth."""

import unittest

from support import STRANGE, Case, seeded, some_word, some_words
from walksback.errors import InvalidPlace, InvalidPlaces, InvalidWord
from walksback.lots import Lot
from walksback.places import (
    are_joined, bridges, bridges_at, classes, crossing, forth_from, forth_to, found_at, joined_to,
)

WRONG_QUESTIONS = STRANGE + ("a" * 25, 0, 1, ["a"], ("a", "b"), Lot(["a"]), b"ab")
LOT = Lot(["ab", "bc", "b"])


def wrong_places(question):
    return STRANGE + (len(question) + 1, len(question) + 7, "0", "a", [0], (1,), {0: 1}, Lot())


def plain_bridges(words, question):
    """All bridges, found by trying all pairs of places."""
    size = len(question)
    return sorted((i, j, question[i:j]) for i in range(size) for j in range(i + 1, size + 1) if question[i:j] in words)


def closed(size, pairs):
    """Which places of so many come from which ones by the pairs, gone any number of times."""
    leads = [[i == j or (i, j) in pairs for j in range(size)] for i in range(size)]
    for k in range(size):
        for i in range(size):
            for j in range(size):
                leads[i][j] = leads[i][j] or (leads[i][k] and leads[k][j])
    return leads


def drawn(number, rounds=60):
    """Lots and questions, some of them at the limits, drawn from a seeded source."""
    source = seeded(number)
    for turn in range(rounds):
        letters = "a" if turn % 5 == 0 else "ab" if turn % 2 else "abc"
        yield Lot(some_words(source, letters, 10, 5)), some_word(source, letters, 24 if turn % 3 == 0 else 9)
    yield Lot(), "a" * 24
    yield Lot(["a"]), "a" * 24
    yield Lot(["a" * 11, "a" * 12]), "a" * 24
    yield Lot(["ab" * 6, "ba" * 6]), "ab" * 12
    yield Lot(), "a"


class FoundAtTest(Case):
    def test_several_places_over_one_another(self):
        self.assertEqual([0, 1, 2], found_at("aaaa", "aa"))
        self.assertEqual([0, 2, 4], found_at("ababab", "ab"))
        self.assertEqual([0, 2], found_at("ababa", "aba"))
        self.assertEqual([0], found_at("abc", "abc"))
        self.assertEqual([2], found_at(question="abc", word="c"))
        self.assertEqual(list(range(24)), found_at("a" * 24, "a"))
        self.assertEqual([0], found_at("a" * 24, "a" * 24))

    def test_nowhere(self):
        self.assertEqual([], found_at("abc", "ac"))
        self.assertEqual([], found_at("abc", "abcd"))
        self.assertEqual([], found_at("abc", "bca"))
        self.assertEqual([], found_at("a" * 24, "a" * 25))
        self.assertEqual([], found_at("a", "a" * 5000))

    def test_wrong_values(self):
        self.fails_for_all(InvalidWord, WRONG_QUESTIONS, lambda value: found_at(value, "a"))
        self.fails_for_all(InvalidWord, STRANGE + (0, 1, ["a"], LOT), lambda value: found_at("abc", value))
        self.fails(InvalidWord, {"value": "A"}, found_at, "A", "B")

    def test_against_all_pairs(self):
        for lot, question in drawn(3):
            for word in lot:
                self.assertEqual([i for i, _, found in plain_bridges([word], question) if found == word],
                                 found_at(question, word))


class BridgesTest(Case):
    def test_ordinary(self):
        self.assertEqual([(0, 2, "ab"), (1, 2, "b"), (1, 3, "bc")], bridges(LOT, "abc"))
        self.assertEqual([(0, 1, "a"), (0, 2, "aa"), (1, 2, "a"), (1, 3, "aa"), (2, 3, "a")],
                         bridges(Lot(["aa", "a"]), "aaa"))
        self.assertEqual([], bridges(Lot(), "abc"))
        self.assertEqual([], bridges(lot=Lot(["abcd", "d"]), question="abc"))

    def test_against_all_pairs(self):
        for lot, question in drawn(4):
            self.assertEqual(plain_bridges(lot.words(), question), bridges(lot, question))

    def test_two_unlike_bridges_from_one_place_end_at_unlike_places(self):
        for lot, question in drawn(5):
            ends = [(begin, end) for begin, end, _ in bridges(lot, question)]
            self.assertEqual(len(ends), len(set(ends)))

    def test_no_bridge_goes_over_a_letter_that_no_word_has(self):
        for lot, question in drawn(6):
            for at, _ in enumerate(question):
                asked = question[:at] + "z" + question[at + 1:]
                for begin, end, _ in bridges(lot, asked):
                    self.assertFalse(begin <= at < end)
                self.assertFalse(are_joined(lot, asked, 0, len(asked)))

    def test_at_a_place(self):
        self.assertEqual([(0, 2, "ab"), (1, 2, "b")], bridges_at(LOT, "abc", 2))
        self.assertEqual([(1, 2, "b"), (1, 3, "bc")], bridges_at(lot=LOT, question="abc", place=1))
        self.assertEqual([(1, 3, "bc")], bridges_at(LOT, "abc", 3))
        self.assertEqual([], bridges_at(Lot(), "abc", 3))
        for lot, question in drawn(7):
            for place in range(len(question) + 1):
                self.assertEqual([bridge for bridge in plain_bridges(lot.words(), question) if place in bridge[:2]],
                                 bridges_at(lot, question, place))

    def test_wrong_values(self):
        self.fails_for_all(InvalidWord, WRONG_QUESTIONS, lambda value: bridges(LOT, value))
        self.fails_for_all(InvalidWord, WRONG_QUESTIONS, lambda value: bridges(Lot(), value))
        self.fails_for_all(InvalidWord, WRONG_QUESTIONS, lambda value: bridges_at(LOT, value, -1))
        self.fails_for_all(InvalidPlace, wrong_places("abc"), lambda value: bridges_at(LOT, "abc", value))


class JoinedTest(Case):
    def test_classes(self):
        self.assertEqual([[0, 1, 2, 3]], classes(LOT, "abc"))
        self.assertEqual([[0, 2], [1, 3]], classes(LOT - "b", "abc"))
        self.assertEqual([[0], [1], [2], [3]], classes(lot=Lot(), question="abc"))
        self.assertEqual([[0, 1, 2, 3, 4, 5]], classes(Lot(["aaa", "aaaa"]), "aaaaa"))
        self.assertEqual([[0, 12, 24]] + [[k, k + 12] for k in range(1, 12)], classes(Lot(["a" * 12]), "a" * 24))

    def test_against_closed_bridges(self):
        for lot, question in drawn(8):
            size = len(question) + 1
            both = [pair for i, j, _ in plain_bridges(lot.words(), question) for pair in ((i, j), (j, i))]
            leads = closed(size, both)
            groups = [[j for j in range(size) if leads[i][j]] for i in range(size)]
            self.assertEqual(sorted(group for i, group in enumerate(groups) if group[0] == i), classes(lot, question))
            for place in range(size):
                self.assertEqual(groups[place], joined_to(lot, question, place))
                for second in range(size):
                    self.is_bool(leads[place][second], are_joined(lot, question, place, second))

    def test_joined_places_stay_joined_with_more_words(self):
        for lot, question in drawn(9):
            for word in lot:
                less = lot - word
                for group in classes(less, question):
                    self.assertTrue(set(group) <= set(joined_to(lot, question, group[0])))

    def test_backwards_place_i_is_joined_as_k_less_i(self):
        for lot, question in drawn(10):
            size = len(question)
            turned = sorted(sorted(size - place for place in group)
                            for group in classes(lot.backwards(), question[::-1]))
            self.assertEqual(turned, classes(lot, question))

    def test_by_name(self):
        self.assertEqual([1, 3], joined_to(lot=LOT - "b", question="abc", place=3))
        self.is_bool(True, are_joined(lot=LOT - "b", question="abc", place=3, second=1))
        self.is_bool(True, are_joined(Lot(), "abc", 3, 3))

    def test_wrong_values(self):
        self.fails_for_all(InvalidWord, WRONG_QUESTIONS, lambda value: classes(LOT, value))
        self.fails_for_all(InvalidWord, WRONG_QUESTIONS, lambda value: joined_to(LOT, value, None))
        self.fails_for_all(InvalidWord, WRONG_QUESTIONS, lambda value: are_joined(LOT, value, None, None))
        wrong = wrong_places("abc")
        self.fails_for_all(InvalidPlace, wrong, lambda value: joined_to(LOT, "abc", value))
        self.fails_for_all(InvalidPlace, wrong, lambda value: are_joined(LOT, "abc", value, -1))
        self.fails_for_all(InvalidPlace, wrong, lambda value: are_joined(LOT, "abc", 0, value))


class ForthTest(Case):
    def test_ordinary(self):
        self.assertEqual([1, 2, 3], forth_from(LOT, "abc", 1))
        self.assertEqual([0, 2], forth_from(LOT, "abc", 0))
        self.assertEqual([3], forth_from(LOT, "abc", 3))
        self.assertEqual([0, 1, 2], forth_to(LOT, "abc", 2))
        self.assertEqual([1, 3], forth_to(lot=LOT, question="abc", place=3))
        self.assertEqual([2], forth_from(lot=Lot(), question="abc", place=2))
        self.assertEqual([2], forth_to(Lot(), "abc", 2))

    def test_against_closed_bridges(self):
        for lot, question in drawn(11):
            size = len(question) + 1
            leads = closed(size, [(i, j) for i, j, _ in plain_bridges(lot.words(), question)])
            for place in range(size):
                self.assertEqual([j for j in range(size) if leads[place][j]], forth_from(lot, question, place))
                self.assertEqual([i for i in range(size) if leads[i][place]], forth_to(lot, question, place))

    def test_wrong_values(self):
        for action in (forth_from, forth_to):
            self.fails_for_all(InvalidWord, WRONG_QUESTIONS, lambda value: action(LOT, value, None))
            self.fails_for_all(InvalidPlace, wrong_places("abc"), lambda value: action(LOT, "abc", value))


class CrossingTest(Case):
    def test_ordinary(self):
        self.assertEqual([(0, 2, "ab"), (1, 2, "b"), (1, 3, "bc")], crossing(LOT, "abc", [0, 1]))
        self.assertEqual([(1, 2, "b")], crossing(LOT, "abc", [2, 0]))
        self.assertEqual([(1, 2, "b")], crossing(lot=LOT, question="abc", places=(0, 2)))
        self.assertEqual([], crossing(LOT, "abc", []))
        self.assertEqual([], crossing(LOT, "abc", ()))
        self.assertEqual([], crossing(LOT, "abc", [3, 1, 0, 2]))
        self.assertEqual([], crossing(Lot(), "abc", [1]))

    def test_against_all_pairs(self):
        source = seeded(12)
        for lot, question in drawn(12):
            places = [place for place in range(len(question) + 1) if source.random() < 0.5]
            source.shuffle(places)
            self.assertEqual([bridge for bridge in plain_bridges(lot.words(), question)
                              if len([end for end in bridge[:2] if end in places]) == 1],
                             crossing(lot, question, places))

    def test_wrong_values(self):
        self.fails_for_all(InvalidWord, WRONG_QUESTIONS, lambda value: crossing(LOT, value, None))
        for value in (None, True, 0, "ab", "", "01", {0: 1}, {}, b"ab", LOT, object(), {0}):
            self.fails(InvalidPlaces, {"position": None}, crossing, LOT, "abc", value)
        for value in wrong_places("abc"):
            self.fails(InvalidPlaces, {"position": 0}, crossing, LOT, "abc", [value])
            self.fails(InvalidPlaces, {"position": 2}, crossing, LOT, "abc", (3, 1, value, 1))
        self.fails(InvalidPlaces, {"position": 1}, crossing, LOT, "abc", [1, 1])
        self.fails(InvalidPlaces, {"position": 3}, crossing, LOT, "abc", [2, 0, 1, 0, 9])


class AnewTest(Case):
    def test_what_is_told_is_new(self):
        for action in (lambda: found_at("aaa", "a"), lambda: bridges(LOT, "abc"), lambda: bridges_at(LOT, "abc", 1),
                       lambda: classes(LOT - "b", "abc"), lambda: joined_to(LOT, "abc", 1),
                       lambda: forth_from(LOT, "abc", 0), lambda: forth_to(LOT, "abc", 3),
                       lambda: crossing(LOT, "abc", [0, 1])):
            self.tells_anew(action)
            self.assertIs(list, type(action()))

    def test_what_is_passed_stays(self):
        self.leaves((LOT, "abc", [2, 0]), crossing)
        places = [1, 0]
        first = crossing(LOT, "abc", places)
        places.append(2)
        self.assertEqual([(0, 2, "ab"), (1, 2, "b"), (1, 3, "bc")], first)


if __name__ == "__main__":
    unittest.main()
