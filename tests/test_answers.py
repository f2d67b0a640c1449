"""walksback.answers: the answers in the three tellings, kept answers, walks."""

import itertools
import unittest

from support import STRANGE, Case, is_plain, seeded, some_ties, some_word, some_words
from walksback.answers import (
    answer, cheapest_walk, costs, counts, is_walk, kept, many_walks, pairs, walk,
)
from walksback.errors import InvalidNode, InvalidTelling, InvalidWord
from walksback.graphs import Graph
from walksback.lots import Lot
from walksback.tables import cost_product, count_product, is_cost_table, is_matrix, is_relation, pairs_in, product

GRAPH = Graph(3, [(0, "a", 1, 7), (0, "a", 2, 5), (1, "b", 2, 1), (2, "b", 2, 0)])
WRONG_WORDS = STRANGE + ("a" * 25, "a" * 100, 0, 1, ["a"], ("a", "b"), GRAPH, Lot(["a"]))
WRONG_NODES = STRANGE + (3, 4, 120, "0", [0], (0,), GRAPH)
TELLINGS = ("whether", "many", "cheap")


def all_walks(graph, word):
    """All walks with the word, each a tuple (nodes, cost): all lists of nodes are tried."""
    table = {tie[:3]: tie[3] for tie in graph.ties()}
    told = []
    for nodes in itertools.product(range(graph.nodes), repeat=len(word) + 1):
        steps = list(zip(nodes, word, nodes[1:]))
        if all(step in table for step in steps):
            told.append((list(nodes), sum(table[step] for step in steps)))
    return told


def drawn(number, rounds=60):
    """Small graphs and words, drawn from a seeded source."""
    source = seeded(number)
    for _ in range(rounds):
        nodes = source.randint(1, 4)
        yield Graph(nodes, some_ties(source, nodes, "ab", 14)), some_word(source, "ab", 4)


class AnswerTest(Case):
    def test_against_all_walks(self):
        for graph, word in drawn(30):
            walks = all_walks(graph, word)
            nodes = range(graph.nodes)
            ends = [[[cost for walked, cost in walks if (walked[0], walked[-1]) == (x, y)] for y in nodes]
                    for x in nodes]
            self.assertEqual([(x, y) for x in nodes for y in nodes if ends[x][y]], pairs(graph, word))
            self.assertEqual([[len(ends[x][y]) for y in nodes] for x in nodes], counts(graph, word))
            self.assertEqual([[min(ends[x][y], default=None) for y in nodes] for x in nodes], costs(graph, word))
            self.assertEqual(len(walks), many_walks(graph, word))

    def test_ordinary(self):
        self.assertEqual([(0, 2)], pairs(GRAPH, "ab"))
        self.assertEqual([[0, 0, 2], [0, 0, 0], [0, 0, 0]], counts(GRAPH, "ab"))
        self.assertEqual([[None, None, 5], [None, None, None], [None, None, None]], costs(GRAPH, "ab"))
        self.assertEqual(2, many_walks(GRAPH, "ab"))
        self.assertEqual([(0, 1), (0, 2)], pairs(graph=GRAPH, word="a"))
        self.assertEqual([[None, 7, 5], [None] * 3, [None] * 3], costs(graph=GRAPH, word="a"))
        self.assertEqual([[0, 1, 1], [0] * 3, [0] * 3], counts(graph=GRAPH, word="a"))
        self.assertEqual(2, many_walks(graph=GRAPH, word="a"))

    def test_without_ties(self):
        self.assertEqual([[], [[0]], [[None]], 0],
                         [pairs(Graph(1), "a"), counts(Graph(1), "a"), costs(Graph(1), "a"), many_walks(Graph(1), "a")])
        self.assertEqual([[0, 0], [0, 0]], counts(Graph(2), "a" * 24))
        self.assertEqual([[None, None], [None, None]], costs(Graph(2), "zz"))

    def test_ties_of_cost_0(self):
        graph = Graph(2, [(0, "a", 1, 0), (1, "a", 0, 0), (0, "a", 0, 0)])
        self.assertEqual([[0, 0], [0, 0]], costs(graph, "aa"))
        self.assertEqual([[2, 1], [1, 1]], counts(graph, "aa"))
        self.assertTrue(is_plain(costs(graph, "aaa")))
        self.assertTrue(is_plain(counts(graph, "aaa")))

    def test_one_node(self):
        graph = Graph(1, [(0, "a", 0, 1000)])
        self.assertEqual([[(0, 0)], [[1]], [[24000]]], [answer(graph, "a" * 24, telling) for telling in TELLINGS])

    def test_numbers_grow_great(self):
        ties = [(x, "a", y, 1) for x in range(31) for y in range(31)]
        graph = Graph(31, ties)
        self.assertEqual([[31 ** 23] * 31] * 31, counts(graph, "a" * 24))
        self.assertEqual(31 ** 25, many_walks(graph, "a" * 24))
        self.assertEqual([[24] * 31] * 31, costs(graph, "a" * 24))

    def test_product_of_words_joined(self):
        for graph, word in drawn(31):
            for at in range(1, len(word)):
                one, other, nodes = word[:at], word[at:], graph.nodes
                self.assertEqual(product(nodes, pairs(graph, one), pairs(graph, other)), pairs(graph, word))
                self.assertEqual(count_product(nodes, counts(graph, one), counts(graph, other)), counts(graph, word))
                self.assertEqual(cost_product(nodes, costs(graph, one), costs(graph, other)), costs(graph, word))

    def test_at_the_limits(self):
        source = seeded(32)
        ties = [(k % 120, "ab"[k // 120 % 2], (k * 7 + k // 240 * 31) % 120, source.randint(0, 1000))
                for k in range(1000)]
        graph = Graph(120, ties)
        word = "ab" * 12
        told = {telling: answer(graph, word, telling) for telling in TELLINGS}
        self.assertTrue(is_relation(120, told["whether"]))
        self.assertTrue(is_matrix(120, told["many"]))
        self.assertTrue(is_cost_table(120, told["cheap"]))
        self.assertEqual(told["whether"], pairs_in(120, "many", told["many"]))
        self.assertEqual(told["whether"], pairs_in(120, "cheap", told["cheap"]))
        half = {telling: answer(graph, "ab" * 6, telling) for telling in TELLINGS}
        self.assertEqual(told["whether"], product(120, half["whether"], half["whether"]))
        self.assertEqual(told["many"], count_product(120, half["many"], half["many"]))
        self.assertEqual(told["cheap"], cost_product(120, half["cheap"], half["cheap"]))
        begin, end = told["whether"][0]
        for found in (walk(graph, word, begin, end), cheapest_walk(graph, word, begin, end)):
            self.is_bool(True, is_walk(graph, word, found))
        self.assertEqual(told["cheap"][begin][end], cost_of(graph, word, cheapest_walk(graph, word, begin, end)))

    def test_a_great_graph_that_the_package_made(self):
        chain = Graph(60, [(k, "a", k + 1, 1) for k in range(59)])
        both = chain.beside(chain)
        self.assertEqual([(k, k + 24) for k in (*range(36), *range(60, 96))], pairs(both, "a" * 24))

    def test_answer_tells_what_the_others_tell(self):
        for graph, word in drawn(33, 20):
            self.assertEqual(pairs(graph, word), answer(graph, word, "whether"))
            self.assertEqual(counts(graph, word), answer(graph, word, "many"))
            self.assertEqual(costs(graph, word), answer(graph=graph, word=word, telling="cheap"))

    def test_wrong_values(self):
        for action in (pairs, counts, costs, many_walks):
            self.fails_for_all(InvalidWord, WRONG_WORDS, lambda value: action(GRAPH, value))
        self.fails_for_all(InvalidWord, WRONG_WORDS, lambda value: answer(GRAPH, value, "none"))
        wrong = STRANGE + ("Many", "how", "whether ", "chea", 0, 1, ["many"], ("many",), {"many": 1}, GRAPH)
        self.fails_for_all(InvalidTelling, wrong, lambda value: answer(GRAPH, "ab", value))
        self.fails_for_all(InvalidTelling, wrong, lambda value: kept(GRAPH, Lot(["ab"]), value))
        self.fails_for_all(InvalidTelling, wrong, lambda value: kept(GRAPH, Lot(), value))


def cost_of(graph, word, nodes):
    """The cost of a walk."""
    table = {tie[:3]: tie[3] for tie in graph.ties()}
    return sum(table[step] for step in zip(nodes, word, nodes[1:]))


class KeptTest(Case):
    def test_each_word_has_its_answer_in_sequence(self):
        lot = Lot(["bb", "ab", "b"])
        for telling in TELLINGS:
            told = kept(GRAPH, lot, telling)
            self.assertEqual(["b", "ab", "bb"], list(told))
            self.assertEqual({word: answer(GRAPH, word, telling) for word in lot.words()}, told)
            self.assertEqual({}, kept(GRAPH, Lot(), telling))
        self.assertEqual({"a": [(0, 1), (0, 2)]}, kept(graph=GRAPH, lot=Lot(["a"]), telling="whether"))

    def test_drawn(self):
        source = seeded(34)
        for graph, _ in drawn(34, 20):
            lot = Lot(some_words(source, "ab", 10, 12))
            for telling in TELLINGS:
                told = kept(graph, lot, telling)
                self.assertEqual([(word, answer(graph, word, telling)) for word in lot], list(told.items()))


class WalkTest(Case):
    def test_against_all_walks(self):
        for graph, word in drawn(35):
            walks = all_walks(graph, word)
            for begin in range(graph.nodes):
                for end in range(graph.nodes):
                    found = [(nodes, cost) for nodes, cost in walks if (nodes[0], nodes[-1]) == (begin, end)]
                    self.assertEqual(min([nodes for nodes, _ in found], default=None), walk(graph, word, begin, end))
                    least = min([(cost, nodes) for nodes, cost in found], default=(0, None))[1]
                    self.assertEqual(least, cheapest_walk(graph, word, begin, end))

    def test_ordinary(self):
        self.assertEqual([0, 1, 2], walk(GRAPH, "ab", 0, 2))
        self.assertEqual([0, 2, 2], cheapest_walk(GRAPH, "ab", 0, 2))
        self.assertEqual([0, 2, 2], cheapest_walk(graph=GRAPH, word="ab", begin=0, end=2))
        self.assertEqual([0, 1], walk(graph=GRAPH, word="a", begin=0, end=1))
        self.assertIs(None, walk(GRAPH, "ab", 0, 1))
        self.assertIs(None, cheapest_walk(GRAPH, "ab", 2, 2))
        self.assertIs(None, walk(Graph(1), "a", 0, 0))

    def test_the_least_of_equally_cheap_ones(self):
        graph = Graph(4, [(0, "a", 1, 2), (0, "a", 2, 1), (0, "a", 3, 0), (1, "a", 3, 0), (2, "a", 3, 1),
                          (3, "a", 3, 3)])
        self.assertEqual([0, 1, 3], cheapest_walk(graph, "aa", 0, 3))
        self.assertEqual([0, 2, 3], cheapest_walk(graph + (0, "a", 1, 3), "aa", 0, 3))
        self.assertEqual([0, 1, 3], walk(graph + (0, "a", 1, 3), "aa", 0, 3))

    def test_wrong_values(self):
        for action in (walk, cheapest_walk):
            self.fails_for_all(InvalidWord, WRONG_WORDS, lambda value: action(GRAPH, value, -1, -1))
            self.fails_for_all(InvalidNode, WRONG_NODES, lambda value: action(GRAPH, "ab", value, None))
            self.fails_for_all(InvalidNode, WRONG_NODES, lambda value: action(GRAPH, "ab", 0, value))

    def test_is_walk(self):
        for graph, word in drawn(36, 25):
            walks = [nodes for nodes, _ in all_walks(graph, word)]
            for nodes in itertools.product(range(graph.nodes), repeat=len(word) + 1):
                self.is_bool(list(nodes) in walks, is_walk(graph, word, list(nodes)))
                self.is_bool(list(nodes) in walks, is_walk(graph, word, nodes))

    def test_is_walk_of_any_value(self):
        self.is_bool(True, is_walk(graph=GRAPH, word="ab", value=[0, 1, 2]))
        wrong = ([0, 1], [0, 1, 2, 2], [0, True, 2], [False, 1, 2], [0, 1, 3], [0, 1, -1], [0, 1, None], [0, "1", 2],
                 [[0], 1, 2], {0: 0, 1: 1, 2: 2}, "012", 0, GRAPH, Lot(), [(0, "a", 1), (1, "b", 2)], (0, 1, [2]))
        for value in STRANGE + wrong:
            self.is_bool(False, is_walk(GRAPH, "ab", value), value)
        self.fails_for_all(InvalidWord, WRONG_WORDS, lambda value: is_walk(GRAPH, value, None))


class AnewTest(Case):
    def test_what_is_told_is_new(self):
        lot = Lot(["ab", "b"])
        for action in (lambda: pairs(GRAPH, "ab"), lambda: counts(GRAPH, "ab"), lambda: costs(GRAPH, "ab"),
                       lambda: walk(GRAPH, "ab", 0, 2), lambda: cheapest_walk(GRAPH, "ab", 0, 2),
                       *(lambda telling=telling: kept(GRAPH, lot, telling) for telling in TELLINGS),
                       *(lambda telling=telling: answer(GRAPH, "b", telling) for telling in TELLINGS)):
            self.tells_anew(action)

    def test_rows_are_not_shared(self):
        for told in (counts(Graph(3), "a"), costs(Graph(3), "a"), counts(GRAPH, "b"), costs(GRAPH, "b")):
            told[0][0] = "spoiled"
            self.assertNotIn("spoiled", told[1] + told[2])

    def test_kinds(self):
        self.assertTrue(all(type(pair) is tuple for pair in pairs(GRAPH, "a")))
        self.assertTrue(all(type(row) is list for row in counts(GRAPH, "a") + costs(GRAPH, "a")))
        self.assertEqual([list, list, list, dict], [type(pairs(GRAPH, "a")), type(counts(GRAPH, "a")),
                                                    type(walk(GRAPH, "a", 0, 1)), type(kept(GRAPH, Lot(), "many"))])


if __name__ == "__main__":
    unittest.main()
