"""walksback.atleast: sure pairs, sure chains, the made graph."""

import itertools
import unittest

from support import STRANGE, Case, is_plain, seeded, some_relation, some_word, some_words
from test_work import WRONG_KEPT, WRONG_NODES, WRONG_PAIRS, WRONG_QUESTIONS
from walksback.answers import is_walk, pairs
from walksback.atleast import chain_of, is_chain_of, made, sure
from walksback.errors import InvalidKept, InvalidNodes, InvalidPair, InvalidWord, TooMany
from walksback.graphs import Graph
from walksback.growing import chain, does_grow
from walksback.lots import Lot

LOT = Lot(["ab", "b", "bc"])
KEPT = {"ab": [(0, 1)], "b": [(2, 1)], "bc": [(2, 0)]}
# Of abbc two sure chains: 0 to 1 by ab, on to 0 by bc.
RICH = {"ab": [(0, 1), (1, 2)], "b": [(1, 1)], "bc": [(1, 0), (2, 2)]}


def all_chains(lot, question, kept, first):
    """All sure chains from a node: each kept pair of each word that the question begins with, and on from there."""
    if question == "":
        return [[]]
    return [[(first, word, y), *rest] for word in lot if question.startswith(word)
            for x, y in kept[word] if x == first for rest in all_chains(lot, question[len(word):], kept, y)]


def end_of(first, steps):
    """Where a sure chain leads."""
    return steps[-1][2] if steps else first


def made_by_hand(lot, nodes, kept):
    """The nodes and the sorted ties of the made graph, walk by walk."""
    used = nodes
    ties = []
    for word in sorted(lot, key=lambda word: (len(word), word)):
        for x, y in sorted(kept[word]):
            walk = [x]
            for _ in word[1:]:
                walk.append(used)
                used += 1
            walk.append(y)
            ties += [(walk[i], word[i], walk[i + 1], 0) for i in range(len(word))]
    return used, sorted(ties)


def drawn(number, rounds=150):
    """Tuples (lot, question, nodes, kept), drawn from a seeded source; most questions are joined of words."""
    source = seeded(number)
    for turn in range(rounds):
        letters = "a" if turn % 3 == 0 else "ab"
        lot = Lot(some_words(source, letters, 4, 3))
        if turn % 4 and len(lot):
            question = "".join(source.choice(lot.words()) for _ in range(source.randint(1, 3)))
        else:
            question = some_word(source, letters, 6)
        nodes = source.randint(1, 4)
        yield lot, question, nodes, {word: some_relation(source, nodes, 6) for word in lot}
    yield LOT, "abc", 3, KEPT
    yield LOT, "abbc", 3, RICH
    yield Lot(), "a", 3, {}


class SureTest(Case):
    def test_ordinary(self):
        self.assertEqual([], sure(LOT, "abc", 3, KEPT))
        self.assertEqual([(0, 0), (1, 2)], sure(LOT, "abbc", 3, RICH))
        self.assertEqual([(0, 0), (1, 2)], sure(lot=LOT, question="abbc", nodes=3, kept=RICH))
        self.assertEqual([(0, 1), (1, 2)], sure(LOT, "ab", 3, RICH))
        self.assertEqual([], sure(Lot(), "a", 3, {}))

    def test_against_all_chains_and_the_made_graph(self):
        found = 0
        for lot, question, nodes, kept in drawn(340):
            told = sure(lot, question, nodes, kept)
            expected = sorted({(x, end_of(x, steps)) for x in range(nodes)
                               for steps in all_chains(lot, question, kept, x)})
            self.assertEqual(expected, told)
            self.assertTrue(is_plain(told))
            graph = made(lot, nodes, kept)
            self.assertEqual([pair for pair in pairs(graph, question) if max(pair) < nodes], told)
            for word in lot:
                self.assertTrue(set(kept[word]) <= set(pairs(graph, word)))
            self.assertFalse(told and not does_grow(lot, question))
            found += len(told) > 0
        self.assertGreater(found, 40)

    def test_questions_of_24_letters_with_very_many_chains(self):
        lot = Lot(["a", "aa", "aaa"])
        kept = {word: [(x, y) for x in range(5) for y in range(5)] for word in lot}
        self.assertEqual(kept["a"], sure(lot, "a" * 24, 5, kept))
        self.assertEqual([(0, "aaa", 0)] * 7 + [(0, "aaa", 3)], chain_of(lot, "a" * 24, 5, kept, (0, 3)))
        self.assertEqual(24, len(chain_of(Lot(["a"]), "a" * 24, 2, {"a": [(0, 1), (1, 0)]}, (0, 0))))
        self.assertIs(None, chain_of(Lot(["a"]), "a" * 24, 2, {"a": [(0, 1), (1, 0)]}, (0, 1)))

    def test_many_nodes(self):
        ring = {"a": [(x, (x + 1) % 120) for x in range(119)] + [(119, 0)], "aa": [(0, 7)]}
        told = sure(Lot(["a", "aa"]), "aaa", 120, ring)
        self.assertEqual(sorted({(x, (x + 3) % 120) for x in range(120)} | {(119, 7), (0, 8)}), told)

    def test_what_is_told_is_new(self):
        self.tells_anew(lambda: sure(LOT, "abbc", 3, RICH))
        self.leaves((LOT, "abbc", 3, dict(RICH)), sure)


class ChainOfTest(Case):
    def test_ordinary(self):
        self.assertEqual([(0, "ab", 1), (1, "bc", 0)], chain_of(LOT, "abbc", 3, RICH, (0, 0)))
        self.assertEqual([(1, "ab", 2), (2, "bc", 2)],
                         chain_of(lot=LOT, question="abbc", nodes=3, kept=RICH, pair=(1, 2)))
        self.assertIs(None, chain_of(LOT, "abbc", 3, RICH, (0, 2)))
        self.assertIs(None, chain_of(LOT, "abc", 3, KEPT, (0, 0)))
        self.assertIs(None, chain_of(Lot(), "a", 1, {}, (0, 0)))

    def test_the_least_of_the_fewest_tuples(self):
        several = 0
        for lot, question, nodes, kept in drawn(341, 300):
            for pair in itertools.product(range(nodes), repeat=2):
                found = [steps for steps in all_chains(lot, question, kept, pair[0])
                         if end_of(pair[0], steps) == pair[1]]
                told = chain_of(lot, question, nodes, kept, pair)
                self.assertEqual(min(found, key=lambda steps: (len(steps), steps)) if found else None, told)
                self.assertTrue(is_plain(told))
                several += len(found) > 1
                for steps in found:
                    self.is_bool(True, is_chain_of(lot, question, nodes, kept, pair, steps))
                self.is_bool(pair in sure(lot, question, nodes, kept), told is not None)
        self.assertGreater(several, 30)

    def test_chains_need_not_have_the_fewest_words(self):
        lot = Lot(["a", "aa"])
        kept = {"a": [(0, 0)], "aa": [(0, 1)]}
        self.assertEqual(["aa"], chain(lot, "aa"))
        self.assertEqual([(0, "a", 0), (0, "a", 0)], chain_of(lot, "aa", 2, kept, (0, 0)))
        self.assertEqual([(0, "aa", 1)], chain_of(lot, "aa", 2, kept, (0, 1)))

    def test_lists_tuples_and_the_sequence_of_keys(self):
        turned = {word: tuple(RICH[word]) for word in ("bc", "ab", "b")}
        self.assertEqual(chain_of(LOT, "abbc", 3, RICH, (0, 0)), chain_of(LOT, "abbc", 3, turned, (0, 0)))
        self.assertEqual(sure(LOT, "abbc", 3, RICH), sure(LOT, "abbc", 3, turned))
        self.assertEqual(made(LOT, 3, RICH), made(LOT, 3, turned))
        self.is_bool(True, is_chain_of(LOT, "abbc", 3, turned, (0, 0), ((0, "ab", 1), (1, "bc", 0))))

    def test_what_is_told_is_new(self):
        self.tells_anew(lambda: chain_of(LOT, "abbc", 3, RICH, (0, 0)))
        self.leaves((LOT, "abbc", 3, dict(RICH), (0, 0)), chain_of)
        self.leaves((LOT, "abbc", 3, dict(RICH), (0, 0), [(0, "ab", 1), (1, "bc", 0)]), is_chain_of)


class IsChainOfTest(Case):
    def test_all_short_lists_of_tuples(self):
        lot = Lot(["a", "aa"])
        kept = {"a": [(0, 1), (1, 1)], "aa": [(0, 0), (1, 0)]}
        steps = [(x, word, y) for word in ("a", "aa") for x in (0, 1) for y in (0, 1)]
        for size in range(4):
            for value in itertools.product(steps, repeat=size):
                for pair in itertools.product((0, 1), repeat=2):
                    right = (len(value) > 0 and all((x, y) in kept[word] for x, word, y in value)
                             and all(one[2] == other[0] for one, other in zip(value, value[1:]))
                             and (value[0][0], value[-1][2]) == pair and "".join(step[1] for step in value) == "aaa")
                    self.is_bool(right, is_chain_of(lot, "aaa", 2, kept, pair, list(value)))

    def test_any_value(self):
        good = [(0, "ab", 1), (1, "bc", 0)]
        self.is_bool(True, is_chain_of(lot=LOT, question="abbc", nodes=3, kept=RICH, pair=(0, 0), value=good))
        wrong = (good[:1], good[1:], good[::-1], [*good, (0, "ab", 1)], [list(step) for step in good],
                 [(False, "ab", 1), (1, "bc", 0)], [(0, "ab", True), (True, "bc", 0)], [(0, "ab", 1), (1, "bc", False)],
                 [(0, "ab", 2), (2, "bc", 0)], [(0, "ab", 1), (2, "bc", 0)], [(0, ["ab"], 1), good[1]],
                 [(0, None, 1), good[1]], [(0, "ab"), good[1]], [(0, "ab", 1, 0), good[1]], [None, good[1]],
                 [*good, None], {good[0]: 1, good[1]: 2}, good[0], "abbc", ["ab", "bc"], [(0, "abbc", 0)], [good], 0,
                 LOT, [(0, "ab", 1), (1, "b", 1), (1, "c", 0)], [(0, "ab", -1), good[1]], [("0", "ab", 1), good[1]],
                 [(0, {}, 1), good[1]], [([], "ab", 1), good[1]], [(0, "ab", 1), (1, "bc", 3)])
        for value in STRANGE + wrong:
            for pair in itertools.product(range(3), repeat=2):
                self.is_bool(False, is_chain_of(LOT, "abbc", 3, RICH, pair, value), value)
            self.is_bool(False, is_chain_of(Lot(), "a", 3, {}, (0, 0), value), value)
        self.is_bool(False, is_chain_of(LOT, "abbc", 3, RICH, (0, 1), good))
        self.is_bool(False, is_chain_of(LOT, "abbc", 3, KEPT, (0, 0), good))
        self.is_bool(False, is_chain_of(LOT, "abb", 3, RICH, (0, 0), good))


class MadeTest(Case):
    def test_ordinary(self):
        # b first: no new node; then ab through node 3, and bc through node 4.
        self.assertEqual(Graph(5, [(2, "b", 1, 0), (0, "a", 3, 0), (3, "b", 1, 0), (2, "b", 4, 0), (4, "c", 0, 0)]),
                         made(LOT, 3, KEPT))
        self.assertEqual(Graph(7, [
            (1, "b", 1, 0), (0, "a", 3, 0), (3, "b", 1, 0), (1, "a", 4, 0), (4, "b", 2, 0),
            (1, "b", 5, 0), (5, "c", 0, 0), (2, "b", 6, 0), (6, "c", 2, 0),
        ]), made(lot=LOT, nodes=3, kept=RICH))
        self.assertEqual(Graph(3), made(Lot(), 3, {}))
        self.assertEqual(Graph(1), made(LOT, 1, {"ab": [], "b": [], "bc": []}))

    def test_walk_by_walk(self):
        for lot, _, nodes, kept in drawn(342):
            graph = made(lot, nodes, kept)
            self.assertEqual(made_by_hand(lot, nodes, kept), (graph.nodes, graph.ties()))

    def test_long_words(self):
        graph = made(Lot(["abcabcabcabc"]), 2, {"abcabcabcabc": [(0, 1), (1, 1)]})
        self.assertEqual([24, 24], [graph.nodes, len(graph)])
        self.is_bool(True, is_walk(graph, "abcabcabcabc", [0, *range(2, 13), 1]))
        self.is_bool(True, is_walk(graph, "abcabcabcabc", [1, *range(13, 24), 1]))

    def test_120_and_121_nodes(self):
        lot = Lot(["ab", "aaa"])
        kept = {"ab": [(x, y) for x in range(10) for y in range(10)], "aaa": [(0, x) for x in range(5)]}
        self.assertEqual(120, made(lot, 10, kept).nodes)
        self.fails(TooMany, {"what": "nodes", "limit": 120}, made, lot, 11, kept)
        more = {"ab": kept["ab"], "aaa": [*kept["aaa"], (0, 5)]}
        self.fails(TooMany, {"what": "nodes", "limit": 120}, made, lot, 10, more)
        self.assertEqual(120, made(lot, 120, {"ab": [], "aaa": []}).nodes)
        self.fails(TooMany, {"what": "nodes", "limit": 120}, made, lot, 120, {"ab": [(0, 0)], "aaa": []})

    def test_1000_and_1001_ties(self):
        lot = Lot(["a", "b"])
        kept = {"a": [(x, y) for x in range(25) for y in range(25)],
                "b": [(x, y) for x in range(25) for y in range(15)]}
        self.assertEqual([1000, 25], [len(made(lot, 25, kept)), made(lot, 25, kept).nodes])
        more = {"a": kept["a"], "b": sorted([*kept["b"], (24, 24)])}
        self.fails(TooMany, {"what": "ties", "limit": 1000}, made, lot, 25, more)
        # Too many of both: the nodes first.
        full = {"a": kept["a"], "b": kept["a"], "ab": kept["a"]}
        self.fails(TooMany, {"what": "nodes", "limit": 120}, made, lot + "ab", 25, full)
        # Longer words have a tie for each letter.
        words = Lot(["a", "ab"])
        even = {"a": [(x, y) for x in range(31) for y in range(31)], "ab": [(0, x) for x in range(19)]}
        self.assertEqual([50, 999], [made(words, 31, even).nodes, len(made(words, 31, even))])
        odd = {"a": even["a"], "ab": [(0, x) for x in range(20)]}
        self.fails(TooMany, {"what": "ties", "limit": 1000}, made, words, 31, odd)

    def test_sure_has_no_such_limit(self):
        lot = Lot(["ab", "c"])
        kept = {"ab": [(x, y) for x in range(12) for y in range(12)], "c": [(0, 3)]}
        self.assertEqual([(x, 3) for x in range(12)], sure(lot, "abc", 12, kept))
        self.fails(TooMany, {"what": "nodes", "limit": 120}, made, lot, 12, kept)


class ErrorsTest(Case):
    def test_each_parameter(self):
        good = {
            sure: {"lot": LOT, "question": "abc", "nodes": 3, "kept": KEPT},
            chain_of: {"lot": LOT, "question": "abc", "nodes": 3, "kept": KEPT, "pair": (0, 0)},
            is_chain_of: {"lot": LOT, "question": "abc", "nodes": 3, "kept": KEPT, "pair": (0, 0), "value": None},
            made: {"lot": LOT, "nodes": 3, "kept": KEPT},
        }
        wrong = [("question", InvalidWord, WRONG_QUESTIONS), ("nodes", InvalidNodes, WRONG_NODES),
                 ("kept", InvalidKept, WRONG_KEPT), ("pair", InvalidPair, WRONG_PAIRS)]
        for action, arguments in good.items():
            for name, error, values in wrong:
                for value in values if name in arguments else ():
                    self.fails(error, {"value": value}, action, **{**arguments, name: value})
            self.sequence(action, arguments, [
                ({name: values[0]}, error, {"value": values[0]}) for name, error, values in wrong if name in arguments
            ])

    def test_kept_of_a_lot_without_words(self):
        for action in (lambda kept: sure(Lot(), "a", 3, kept), lambda kept: made(Lot(), 3, kept)):
            self.fails_for_all(InvalidKept, [KEPT, [], None, {"a": []}, ()], action)
            action({})

    def test_too_many_behind_invalid_kept(self):
        self.fails(InvalidNodes, {"value": 121}, made, LOT, 121, KEPT)
        kept = {**KEPT, "ab": [(x, y) for x in range(3) for y in range(4)]}
        self.fails(InvalidKept, {"value": kept}, made, LOT, 3, kept)


if __name__ == "__main__":
    unittest.main()
