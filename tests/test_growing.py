"""walksback.growing: questions that grow, chains, shrinkings."""

import itertools
import unittest

from support import STRANGE, Case, is_plain, seeded, some_ties, some_word, some_words
from walksback.answers import pairs
from walksback.errors import InvalidWord
from walksback.graphs import Graph
from walksback.growing import chain, chain_count, does_grow, is_chain, is_shrinking, shrinking
from walksback.lots import Lot
from walksback.settled import is_settled

LOT = Lot(["ab", "b", "bc"])
WRONG_QUESTIONS = STRANGE + ("a" * 25, 0, 1, ["a"], ("a", "b"), Lot(["a"]))


def all_chains(words, question):
    """All chains: each word that the question begins with, and behind it each chain of its rest."""
    if question == "":
        return [[]]
    return [[word, *rest] for word in words if question.startswith(word)
            for rest in all_chains(words, question[len(word):])]


def drawn(number, rounds=150):
    """Lots and questions, drawn from a seeded source; some of the questions are joined of the words."""
    source = seeded(number)
    for turn in range(rounds):
        letters = "a" if turn % 5 == 0 else "ab" if turn % 2 else "abc"
        lot = Lot(some_words(source, letters, 5, 4))
        if turn % 3 == 0 and len(lot):
            question = "".join(source.choice(lot.words()) for _ in range(source.randint(1, 3)))
        else:
            question = some_word(source, letters, 8)
        yield lot, question
    yield Lot(), "a"
    yield LOT, "abc"
    yield Lot(["abc", "ab"]), "abc"


class ChainTest(Case):
    def test_ordinary(self):
        self.assertEqual([False, True, True], [does_grow(LOT, "abc"), does_grow(LOT, "abbc"), does_grow(LOT, "b")])
        self.assertEqual([None, ["ab", "bc"], ["b"]], [chain(LOT, "abc"), chain(LOT, "abbc"), chain(LOT, "b")])
        self.assertEqual([0, 1, 1], [chain_count(LOT, "abc"), chain_count(LOT, "abbc"), chain_count(LOT, "b")])
        self.is_bool(True, does_grow(lot=LOT, question="bb"))
        self.assertEqual(["b", "b"], chain(lot=LOT, question="bb"))
        self.assertEqual(1, chain_count(lot=LOT, question="bb"))
        self.assertEqual([None, 0, False], [chain(Lot(), "a"), chain_count(Lot(), "a"), does_grow(Lot(), "a")])

    def test_settled_questions_need_not_grow(self):
        self.assertEqual([True, False], [is_settled(LOT, "abc"), does_grow(LOT, "abc")])

    def test_the_least_list_of_the_fewest_words(self):
        # As Python compares them, "aab" stands ahead of "ab", although it is longer.
        self.assertEqual(["a", "aab"], chain(Lot(["a", "aab", "aa", "ab"]), "aaab"))
        self.assertEqual(["a", "ab"], chain(Lot(["aa", "b", "a", "ab"]), "aab"))
        self.assertEqual(["ab", "c"], chain(Lot(["a", "b", "ab", "c"]), "abc"))

    def test_against_all_chains(self):
        for lot, question in drawn(310):
            found = all_chains(lot.words(), question)
            fewest = [steps for steps in found if len(steps) == min(map(len, found))]
            self.is_bool(bool(found), does_grow(lot, question))
            self.assertEqual(min(fewest) if found else None, chain(lot, question))
            self.assertEqual(len(found), chain_count(lot, question))
            for words in found:
                self.is_bool(True, is_chain(lot, question, words))
                self.is_bool(True, is_chain(lot, question, tuple(words)))

    def test_is_chain_of_all_short_lists(self):
        for lot, question in (LOT, "abbc"), (Lot(["a", "aa"]), "aaa"), (Lot(["a", "b", "ab"]), "ab"):
            for size in range(5):
                for words in itertools.product(lot.words(), repeat=size):
                    self.is_bool("".join(words) == question, is_chain(lot, question, list(words)))

    def test_is_chain_of_any_value(self):
        self.is_bool(True, is_chain(lot=LOT, question="abbc", value=["ab", "bc"]))
        wrong = ("abbc", ["abbc"], ["ab", "b", "c"], ["bc", "ab"], ["ab"], ["ab", "bc", "b"], ["ab", None],
                 ["ab", ["bc"]], [["ab", "bc"]], {"ab": 1, "bc": 1}, ["ab", "", "bc"], ("ab", "bc", ""), ["ab", 0],
                 [b"ab", b"bc"], ["a", "bbc"], LOT, Graph(1), ["ab", True], [("ab",), ("bc",)], ["AB", "bc"], 0,
                 ["ab", {"bc": 1}])
        for value in STRANGE + wrong:
            self.is_bool(False, is_chain(LOT, "abbc", value), value)
            self.is_bool(False, is_chain(Lot(), "abbc", value), value)

    def test_very_many_chains(self):
        lot = Lot(["a" * size for size in range(1, 11)])
        many = [1]
        for size in range(1, 25):
            many.append(sum(many[max(0, size - 10):]))
        self.assertEqual(many[24], chain_count(lot, "a" * 24))
        self.assertGreater(many[24], 8 * 10 ** 6)
        self.assertEqual(["a" * 4, "a" * 10, "a" * 10], chain(lot, "a" * 24))
        self.assertEqual([1, ["ab"] * 12], [chain_count(Lot(["ab"]), "ab" * 12), chain(Lot(["ab"]), "ab" * 12)])
        self.assertIs(None, chain(Lot(["ab"]), "ab" * 11 + "a"))

    def test_wrong_questions(self):
        for action in (does_grow, chain, chain_count, shrinking):
            for lot in (LOT, Lot()):
                self.fails_for_all(InvalidWord, WRONG_QUESTIONS, lambda value: action(lot, value))
        for action in (is_chain, is_shrinking):
            self.fails_for_all(InvalidWord, WRONG_QUESTIONS, lambda value: action(LOT, value, None))

    def test_what_is_told_is_new(self):
        self.tells_anew(lambda: chain(LOT, "abbc"))
        self.leaves((LOT, "abbc", ["ab", "bc"]), is_chain)
        self.assertTrue(is_plain([chain_count(LOT, "abbc")]))


class ShrinkingTest(Case):
    def test_ordinary(self):
        # Of abc by ab, b, bc: forth from place 0 one comes to the places 0 and 2 alone.
        first, second = shrinking(LOT, "abc")
        self.assertEqual(Graph(8, [(1, "a", 2, 0), (2, "b", 5, 0), (5, "c", 6, 0)]), first)
        self.assertEqual(Graph(8, [
            (0, "a", 2, 0), (0, "a", 3, 0), (1, "a", 3, 0), (2, "b", 4, 0), (2, "b", 5, 0), (3, "b", 5, 0),
            (4, "c", 6, 0), (4, "c", 7, 0), (5, "c", 7, 0),
        ]), second)
        self.assertEqual((first, second), shrinking(lot=LOT, question="abc"))
        self.assertIs(tuple, type(shrinking(LOT, "abc")))
        self.assertIs(None, shrinking(LOT, "abbc"))
        self.assertEqual((Graph(4, [(1, "a", 2, 0)]),
                          Graph(4, [(0, "a", 2, 0), (0, "a", 3, 0), (1, "a", 3, 0)])), shrinking(Lot(), "a"))

    def test_tie_by_tie_and_just_without_a_chain(self):
        for lot, question in drawn(311):
            told = shrinking(lot, question)
            self.is_bool(not all_chains(lot.words(), question), told is not None)
            if told is None:
                continue
            size = len(question)
            reached = [i for i in range(size + 1) if all_chains(lot.words(), question[:i])]
            stand = [2 * i + (i in reached) for i in range(size + 1)]
            self.assertEqual(sorted((stand[i], question[i], stand[i + 1], 0) for i in range(size)), told[0].ties())
            self.assertEqual(sorted((2 * i + x, question[i], 2 * i + 2 + y, 0) for i in range(size)
                                    for x, y in ((0, 0), (0, 1), (1, 1))), told[1].ties())
            self.assertEqual([2 * size + 2] * 2, [told[0].nodes, told[1].nodes])
            self.is_bool(True, is_shrinking(lot, question, told))

    def test_questions_of_24_letters(self):
        first, second = shrinking(Lot(["aa", "aaaa"]), "a" * 23)
        self.assertEqual([48, 23, 48, 69], [first.nodes, len(first), second.nodes, len(second)])
        self.is_bool(True, is_shrinking(Lot(["aa", "aaaa"]), "a" * 23, (first, second)))

    def test_what_grows_has_no_shrinking(self):
        source = seeded(312)
        shrunk = 0
        for lot, question in drawn(312):
            nodes = source.randint(1, 3)
            one = Graph(nodes, some_ties(source, nodes, "abc", 6))
            other = Graph(nodes, some_ties(source, nodes, "abc", 9))
            if source.randint(0, 1):
                for tie in one:
                    other = other + tie
                other = other - source.choice(other.ties()) if len(other) else other
            right = (all(set(pairs(one, word)) <= set(pairs(other, word)) for word in lot)
                     and not set(pairs(one, question)) <= set(pairs(other, question)))
            self.is_bool(right, is_shrinking(lot, question, (one, other)))
            shrunk += right
            self.assertFalse(right and does_grow(lot, question))
        self.assertGreater(shrunk, 5)

    def test_is_shrinking_of_any_value(self):
        first, second = shrinking(LOT, "abc")
        self.is_bool(True, is_shrinking(lot=LOT, question="abc", value=(first, second)))
        self.is_bool(False, is_shrinking(LOT, "abbc", (first, second)))
        wrong = ([first, second], (first,), (first, second, first), (second, first), (first, first), (second, second),
                 (first, None), (first, Graph(9, second.ties())), (Graph(9, first.ties()), second), first, second,
                 ((first, second),), {8: first}, (first, LOT), (first.ties(), second.ties()), (8, 8), LOT, "abc", 0)
        for value in STRANGE + wrong:
            self.is_bool(False, is_shrinking(LOT, "abc", value), value)
        self.is_bool(False, is_shrinking(LOT + "abc", "abc", (first, second)))

    def test_graphs_with_one_tie_otherwise(self):
        first, second = shrinking(LOT, "abc")
        told = [is_shrinking(LOT, "abc", (first - tie, second)) for tie in first]
        self.assertEqual([False] * 3, told)
        for tie in second:
            less = second - tie
            right = all(set(pairs(first, word)) <= set(pairs(less, word)) for word in LOT)
            self.is_bool(right, is_shrinking(LOT, "abc", (first, less)), tie)

    def test_costs_do_not_matter(self):
        first, second = shrinking(LOT, "abc")
        dear = Graph(8, [(*tie[:3], 7) for tie in second])
        self.is_bool(True, is_shrinking(LOT, "abc", (first, dear)))

    def test_what_is_passed_stays(self):
        self.leaves((LOT, "abc", shrinking(LOT, "abc")), is_shrinking)
        self.assertEqual(shrinking(LOT, "abc"), shrinking(LOT, "abc"))


if __name__ == "__main__":
    unittest.main()
