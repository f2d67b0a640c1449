"""walksback.work: plans at work, reasons, denials."""

import itertools
import unittest

from support import STRANGE, Case, is_plain, seeded, some_relation, some_ties, some_word, some_words
from walksback.answers import kept as kept_answers
from walksback.answers import pairs
from walksback.errors import InvalidKept, InvalidNode, InvalidNodes, InvalidPair, InvalidPlan, InvalidWord, NotSettled
from walksback.graphs import Graph
from walksback.lots import Lot
from walksback.places import bridges
from walksback.plans import cheapest_plan, plan_at
from walksback.settled import is_plan, plan
from walksback.work import denial, is_denial, is_reason, parted, reason, tables, told, told_from

LOT = Lot(["ab", "b", "bc"])
LESS = Lot(["ab", "bc"])
KEPT = {"ab": [(0, 1)], "b": [(2, 1)], "bc": [(2, 0)]}
PLAN = [(0, "ab", 2), (2, "b", 1), (1, "bc", 3)]
# The same plan by way of place 3, the last one, and back again.
ROUND = [*PLAN, (3, "bc", 1), (1, "bc", 3)]
WRONG_QUESTIONS = STRANGE + ("a" * 25, 0, 1, ["a"], ("a", "b"), Lot(["a"]))
WRONG_NODES = STRANGE + (0, 121, 122, "3", [3], (3,), {3: 3}, LOT)
WRONG_PLANS = STRANGE + (
    PLAN[:2], PLAN[1:], PLAN[::-1], [list(step) for step in PLAN], [(0, "abc", 3)], [*PLAN, None], PLAN[0], "abc",
    [(False, "ab", 2), *PLAN[1:]], [(0, "ab", 2), (2, "b", True), (True, "bc", 3)], {0: PLAN}, [PLAN], 0, LOT,
    [*PLAN, (3, "bc", 1)],
)
WRONG_KEPT = STRANGE + (
    {"ab": [(0, 1)], "b": [(2, 1)]}, {**KEPT, "a": []}, {**KEPT, "bc": None}, {**KEPT, "bc": [(2, 3)]},
    {**KEPT, "bc": [[2, 0]]}, {**KEPT, "bc": [(2, 0), (0, 2)]}, {**KEPT, "bc": [(2, 0), (2, 0)]},
    {**KEPT, "bc": [(2, False)]}, {**KEPT, "bc": [(True, 0)]}, {**KEPT, "bc": (2, 0)}, {**KEPT, "bc": {(2, 0): 1}},
    {**KEPT, "bc": [(-1, 0)]}, {**KEPT, "bc": [(2, 0, 1)]}, {"ab": [], "b": [], True: []}, {"ab": [], "b": [], 0: []},
    {"ab": [], "b": [], None: []}, {"ab": [], "b": [], ("bc",): []}, {"ab": [], "b": [], "BC": []},
    [("ab", []), ("b", []), ("bc", [])], ["ab", "b", "bc"], LOT, Graph(3), "abc", 0, {"ab": [[0, 0, 0]] * 3, **{}},
    {**KEPT, "b": [[0, 0, 0], [0, 0, 0], [0, 1, 0]]}, {**KEPT, "ab": "01"},
)
WRONG_NODE = STRANGE + (3, 4, 121, "0", [0], (0,), {0: 0}, LOT)
WRONG_PAIRS = STRANGE + ([0, 0], (0,), (0, 3), (3, 0), (-1, 0), (0, -1), (0, 1, 2), (True, 0), (0, False), (0, None),
                         ("0", "1"), ((0, 0),), {0: 0}, 0, "01", LOT, (0, [0]))


def at_work(steps, nodes, kept):
    """The relations of a plan at work, word by word as the document tells them."""
    here = {(x, x) for x in range(nodes)}
    found = [here]
    for begin, word, end in steps:
        known = {tuple(pair) for pair in kept[word]}
        if begin < end:
            here = {(x, y) for x in range(nodes) for y in range(nodes)
                    if any((x, z) in here and (z, y) in known for z in range(nodes))}
        else:
            here = {(x, w) for x in range(nodes) for w in range(nodes)
                    if all((x, z) in here for z in range(nodes) if (w, z) in known)}
        found.append(here)
    return [sorted(relation) for relation in found]


def some_plan(source, lot, question):
    """A plan with some circles, drawn from a seeded source; None if there is none."""
    told = plan(lot, question)
    if told is None:
        return None
    ways = [(begin, word, end) for begin, end, word in bridges(lot, question)]
    for _ in range(source.randint(0, 2)):
        at = source.randint(0, len(told))
        place = told[at][0] if at < len(told) else len(question)
        begin, word, end = source.choice(ways)
        if begin == place:
            told = [*told[:at], (begin, word, end), (end, word, begin), *told[at:]]
        if end == place:
            told = [*told[:at], (end, word, begin), (begin, word, end), *told[at:]]
    return told


def drawn(number, rounds=120):
    """Tuples (source, lot, question, steps, nodes, kept): kept relations of graphs and others, and plans."""
    source = seeded(number)
    made = 0
    while made < rounds:
        question = some_word(source, "a" if made % 3 == 0 else "ab", 6)
        words = set(some_words(source, "ab", 1, 3))
        for _ in range(source.randint(1, 4)):
            begin = source.randrange(len(question))
            words.add(question[begin:begin + source.randint(1, 5)])
        lot = Lot(sorted(words))
        steps = some_plan(source, lot, question)
        if steps is None:
            continue
        made += 1
        nodes = source.randint(1, 4)
        if made % 2:
            graph = Graph(nodes, some_ties(source, nodes, "ab", 10))
            kept = kept_answers(graph, lot, "whether")
        else:
            kept = {word: some_relation(source, nodes, 8) for word in lot}
        yield source, lot, question, steps, nodes, kept
    yield source, LOT, "abc", PLAN, 3, KEPT
    yield source, LOT, "abc", ROUND, 3, KEPT


class TablesTest(Case):
    def test_ordinary(self):
        self.assertEqual([
            [(0, 0), (1, 1), (2, 2)], [(0, 1)], [(0, 0), (0, 1), (0, 2), (1, 0), (1, 1), (2, 0), (2, 1)], [(0, 0)],
        ], tables(LOT, "abc", PLAN, 3, KEPT))
        self.assertEqual([(0, 0)], told(LOT, "abc", 3, KEPT))
        self.assertEqual([[0], [], []], [told_from(LOT, "abc", 3, KEPT, node) for node in range(3)])
        self.assertEqual(tables(LOT, "abc", PLAN, 3, KEPT),
                         tables(lot=LOT, question="abc", plan=PLAN, nodes=3, kept=KEPT))
        self.assertEqual([(0, 0)], told(lot=LOT, question="abc", nodes=3, kept=KEPT, plan=PLAN))
        self.assertEqual([0], told_from(lot=LOT, question="abc", nodes=3, kept=KEPT, node=0, plan=PLAN))
        self.assertEqual([(0, 0)], told(LOT, "abc", 3, KEPT, None))

    def test_against_the_definition(self):
        lengths = set()
        for _, lot, question, steps, nodes, kept in drawn(330):
            expected = at_work(steps, nodes, kept)
            lengths.add(len(steps))
            found = tables(lot, question, steps, nodes, kept)
            self.assertEqual(expected, found)
            self.assertTrue(is_plain(found))
            self.assertEqual(expected[-1], told(lot, question, nodes, kept, steps))
            for node in range(nodes):
                self.assertEqual([y for x, y in expected[-1] if x == node],
                                 told_from(lot, question, nodes, kept, node, steps))
            least = at_work(plan(lot, question), nodes, kept)[-1]
            self.assertEqual(least, told(lot, question, nodes, kept))
            for node in range(nodes):
                self.assertEqual([y for x, y in least if x == node], told_from(lot, question, nodes, kept, node))
        self.assertGreater(len(lengths), 4)

    def test_each_plan_tells_the_answer_in_each_graph(self):
        source = seeded(331)
        for _, lot, question, steps, _, _ in drawn(331, 80):
            nodes = source.randint(1, 5)
            graph = Graph(nodes, some_ties(source, nodes, "abc", 16))
            kept = kept_answers(graph, lot, "whether")
            answer = pairs(graph, question)
            for some in (None, steps, cheapest_plan(lot, question, (0, 1)), plan_at(lot, question, 0)):
                self.assertEqual(answer, told(lot, question, nodes, kept, some))
            self.assertIs(None, parted(lot, question, plan(lot, question), steps, nodes, kept))

    def test_nodes_without_any_pair(self):
        # Back over a word without any pair: all nodes stand behind.
        kept = {"ab": [(0, 1)], "b": [], "bc": [(2, 0)]}
        everything = [(x, y) for x in range(3) for y in range(3)]
        self.assertEqual([everything, [(0, 0), (1, 0), (2, 0)]], tables(LOT, "abc", PLAN, 3, kept)[2:])
        nothing = {"ab": [], "b": [], "bc": []}
        self.assertEqual([[(0, 0)], [], [(0, 0)], []], tables(LOT, "abc", PLAN, 1, nothing))

    def test_lists_tuples_and_the_sequence_of_keys(self):
        tuples = {word: tuple(KEPT[word]) for word in KEPT}
        turned = {word: KEPT[word] for word in ("bc", "ab", "b")}
        for kept in (tuples, turned):
            for steps in (PLAN, tuple(PLAN)):
                self.assertEqual(tables(LOT, "abc", PLAN, 3, KEPT), tables(LOT, "abc", steps, 3, kept))
                self.assertEqual([(0, 0)], told(LOT, "abc", 3, kept, steps))
                self.assertEqual([0], told_from(LOT, "abc", 3, kept, 0, steps))
                self.assertIs(None, parted(LOT, "abc", steps, list(steps), 3, kept))
                self.assertEqual([[0], [1], [0, 1, 2], [0]], reason(LOT, "abc", steps, 3, kept, (0, 0)))

    def test_many_nodes(self):
        source = seeded(332)
        graph = Graph(120, some_ties(source, 120, "abc", 400))
        kept = kept_answers(graph, LOT, "whether")
        self.assertEqual(pairs(graph, "abc"), told(LOT, "abc", 120, kept))
        self.assertEqual([y for x, y in pairs(graph, "abc") if x == 119], told_from(LOT, "abc", 120, kept, 119))
        full = {word: [(x, y) for x in range(50) for y in range(50)] for word in LOT}
        self.assertEqual(full["b"], told(LOT, "abc", 50, full))

    def test_questions_of_24_letters(self):
        lot = Lot(["a" * 5, "a" * 7])
        ring = Graph(120, [(x, "a", (x + 1) % 120, 0) for x in range(120)])
        kept = kept_answers(ring, lot, "whether")
        self.assertEqual(sorted((x, (x + 24) % 120) for x in range(120)), told(lot, "a" * 24, 120, kept))

    def test_what_is_told_is_new(self):
        self.tells_anew(lambda: tables(LOT, "abc", PLAN, 3, KEPT))
        self.tells_anew(lambda: told(LOT, "abc", 3, KEPT))
        self.tells_anew(lambda: told_from(LOT, "abc", 3, KEPT, 0))
        self.leaves((LOT, "abc", list(PLAN), 3, dict(KEPT)), tables)
        self.leaves((LOT, "abc", 3, dict(KEPT)), told)
        self.leaves((LOT, "abc", list(PLAN), list(ROUND), 3, dict(KEPT)), parted)


class PartedTest(Case):
    def test_ordinary(self):
        # Of no graph: ROUND goes back over bc and on again, behind which more or less may stand.
        kept = {"ab": [(0, 1)], "b": [(2, 1)], "bc": [(2, 0), (2, 1)]}
        self.assertEqual([(0, 0), (0, 1)], told(LOT, "abc", 3, kept, PLAN))
        self.assertIs(None, parted(LOT, "abc", PLAN, ROUND, 3, kept))
        lot = Lot(["a", "aa"])
        other = {"a": [(0, 1)], "aa": [(0, 0), (1, 1)]}
        self.assertEqual((0, 0), parted(lot, "aa", [(0, "aa", 2)], [(0, "a", 1), (1, "a", 2)], 2, other))
        self.assertEqual((0, 0), parted(lot=lot, question="aa", plan=[(0, "a", 1), (1, "a", 2)],
                                        other=[(0, "aa", 2)], nodes=2, kept=other))

    def test_against_the_definition(self):
        unlike = 0
        for source, lot, question, steps, nodes, kept in drawn(333, 300):
            other = some_plan(source, lot, question)
            one = at_work(steps, nodes, kept)[-1]
            two = at_work(other, nodes, kept)[-1]
            apart = sorted(set(one) ^ set(two))
            unlike += bool(apart)
            self.assertEqual(apart[0] if apart else None, parted(lot, question, steps, other, nodes, kept))
            self.assertEqual(apart[0] if apart else None, parted(lot, question, other, steps, nodes, kept))
        self.assertGreater(unlike, 10)


class ReasonTest(Case):
    def test_ordinary(self):
        self.assertIs(None, reason(LOT, "abc", PLAN, 3, KEPT, (0, 1)))
        self.assertIs(None, denial(LOT, "abc", PLAN, 3, KEPT, (0, 0)))
        found = reason(LOT, "abc", PLAN, 3, KEPT, (0, 0))
        self.is_bool(True, is_reason(LOT, "abc", PLAN, 3, KEPT, (0, 0), found))
        self.is_bool(True, is_reason(LOT, "abc", PLAN, 3, KEPT, (0, 0), [[0], [1], [2], [0]]))
        self.is_bool(True, is_reason(lot=LOT, question="abc", plan=PLAN, nodes=3, kept=KEPT, pair=(0, 0),
                                     value=([0], (1,), [0, 1, 2], (0,))))
        found = denial(lot=LOT, question="abc", plan=PLAN, nodes=3, kept=KEPT, pair=(0, 1))
        self.is_bool(True, is_denial(LOT, "abc", PLAN, 3, KEPT, (0, 1), found))
        self.is_bool(True, is_denial(LOT, "abc", PLAN, 3, KEPT, (0, 1), [[0, 1], [1], [0, 1, 2], [0, 2]]))
        self.is_bool(True, is_denial(lot=LOT, question="abc", plan=PLAN, nodes=3, kept=KEPT, pair=(0, 1),
                                     value=([0, 1, 2], (0, 1, 2), [0, 1, 2], (0,))))

    def test_of_each_pair_just_one(self):
        for _, lot, question, steps, nodes, kept in drawn(334):
            last = at_work(steps, nodes, kept)[-1]
            for pair in itertools.product(range(nodes), repeat=2):
                why = reason(lot, question, steps, nodes, kept, pair)
                why_not = denial(lot, question, steps, nodes, kept, pair)
                self.is_bool(pair in last, why is not None)
                self.is_bool(pair not in last, why_not is not None)
                if why is not None:
                    self.is_bool(True, is_reason(lot, question, steps, nodes, kept, pair, why))
                    self.is_bool(False, is_denial(lot, question, steps, nodes, kept, pair, why))
                if why_not is not None:
                    self.is_bool(True, is_denial(lot, question, steps, nodes, kept, pair, why_not))
                    self.is_bool(False, is_reason(lot, question, steps, nodes, kept, pair, why_not))
                self.assertTrue(is_plain([why, why_not]))

    def test_all_lists_of_lists(self):
        # Each list of rising lists of two nodes, by the definition.
        lists = [[], [0], [1], [0, 1]]
        lot = Lot(["a", "aa"])
        steps = [(0, "aa", 2), (2, "a", 1), (1, "a", 2)]
        found = [0, 0]
        for kept in ({"a": [(0, 1)], "aa": []}, {"a": [(0, 1), (1, 1)], "aa": [(0, 1), (1, 1)]},
                     {"a": [(1, 0)], "aa": [(0, 0), (0, 1)]}):
            for value in itertools.product(lists, repeat=4):
                for pair in itertools.product((0, 1), repeat=2):
                    lets = [[pair[0]]]
                    for (begin, word, end), ahead in zip(steps, value):
                        if begin < end:
                            lets.append([y for y in (0, 1) if any((z, y) in kept[word] for z in ahead)])
                        else:
                            lets.append([w for w in (0, 1) if all((w, z) not in kept[word] or z in ahead
                                                                  for z in (0, 1))])
                    right = (all(set(some) <= set(most) for some, most in zip(value, lets)) and pair[1] in value[-1])
                    wrong = (all(set(some) >= set(most) for some, most in zip(value, lets))
                             and pair[1] not in value[-1])
                    found[0] += right
                    found[1] += wrong
                    self.is_bool(right, is_reason(lot, "aa", steps, 2, kept, pair, list(value)))
                    self.is_bool(wrong, is_denial(lot, "aa", steps, 2, kept, pair, value))
        self.assertGreater(min(found), 5)

    def test_a_node_more_less_or_twice(self):
        found = [[0], [1], [0, 1, 2], [0]]
        for value in ([[0, 1], *found[1:]], [found[0], [0, 1], *found[2:]], [*found[:3], [0, 1]], [*found[:3], []],
                      [*found[:3], [1]], [[], *found[1:]], [[0, 0], *found[1:]], [[0], [1, 1], *found[2:]],
                      [[0], [1], [0, 2, 1], [0]], [[0], [1], [0, 1, 2, 3], [0]], [[0], [1], [0, 1, 2], [0, 0]],
                      [*found, [0]], found[:3], [[0], *found], [[0], [], [0, 1, 2], [0]], [[0], [1], [0, 1], [0]],
                      [[0], [1], [2], [0, 2]]):
            right = value == [[0], [1], [0, 1, 2], [0]]
            self.is_bool(right, is_reason(LOT, "abc", PLAN, 3, KEPT, (0, 0), value), value)
        found = [[0], [1], [0, 1, 2], [0]]
        for value in ([[], *found[1:]], [[0], [], *found[2:]], [[0], [1], [0, 1], [0]], [[0], [1], [0, 1, 2], []],
                      [*found[:3], [0, 1]], [*found, [0]], found[:3], [[0, 0], *found[1:]], [[0], [1, 1], *found[2:]],
                      [[1], *found[1:]], [[0], [1], [0, 1, 2, 3], [0]], [[0], [1], [2, 1, 0], [0]]):
            self.is_bool(False, is_denial(LOT, "abc", PLAN, 3, KEPT, (0, 1), value), value)

    def test_any_value(self):
        wrong = ([[0], [1], [2], [False]], [[False], [1], [2], [0]], [[0], [True], [2], [0]], [[0], [1], [2], [None]],
                 [[0], [1], [2], None], [0, 1, 2, 0], [{0: 0}, {1: 1}, {2: 2}, {0: 0}], "0120", [["0"], [1], [2], [0]],
                 {0: [0], 1: [1], 2: [2], 3: [0]}, [[0], [1], [2], [[0]]], [[0], [1], [2], [0], None], 0, LOT,
                 [[[0], [1], [2], [0]]], [[0], [1], [2], [-1, 0]], [[0], [1], [2], [0, 3]], [[0], [1], [2], "0"])
        for value in STRANGE + wrong:
            for pair in itertools.product(range(3), repeat=2):
                self.is_bool(False, is_reason(LOT, "abc", PLAN, 3, KEPT, pair, value), value)
                self.is_bool(False, is_denial(LOT, "abc", PLAN, 3, KEPT, pair, value), value)

    def test_plans_that_come_to_the_last_place_again(self):
        for pair in itertools.product(range(3), repeat=2):
            why = reason(LOT, "abc", ROUND, 3, KEPT, pair)
            self.assertEqual(6, len(why if why is not None else denial(LOT, "abc", ROUND, 3, KEPT, pair)))

    def test_what_is_told_is_new(self):
        self.tells_anew(lambda: reason(LOT, "abc", PLAN, 3, KEPT, (0, 0)))
        self.tells_anew(lambda: denial(LOT, "abc", PLAN, 3, KEPT, (0, 1)))
        self.leaves((LOT, "abc", list(PLAN), 3, dict(KEPT), (0, 0), [[0], [1], [2], [0]]), is_reason)
        self.leaves((LOT, "abc", list(PLAN), 3, dict(KEPT), (0, 0), [[0], [1], [2], [0]]), is_denial)


class ErrorsTest(Case):
    def good(self, action):
        """Keyword arguments with which the action raises nothing."""
        told_with = {"lot": LOT, "question": "abc", "nodes": 3, "kept": KEPT}
        more = {
            tables: {"plan": PLAN}, told: {"plan": None}, told_from: {"node": 0, "plan": None},
            parted: {"plan": PLAN, "other": ROUND}, reason: {"plan": PLAN, "pair": (0, 0)},
            denial: {"plan": PLAN, "pair": (0, 0)}, is_reason: {"plan": PLAN, "pair": (0, 0), "value": None},
            is_denial: {"plan": PLAN, "pair": (0, 0), "value": None},
        }
        return {**told_with, **more[action]}

    def wrong(self, action, name, error, values):
        """For each of the values as this argument the action raises the error."""
        for value in values:
            self.fails(error, {"value": value}, action, **{**self.good(action), name: value})

    def test_each_parameter(self):
        for action in (tables, told, told_from, parted, reason, denial, is_reason, is_denial):
            self.wrong(action, "question", InvalidWord, WRONG_QUESTIONS)
            self.wrong(action, "nodes", InvalidNodes, WRONG_NODES)
            self.wrong(action, "kept", InvalidKept, WRONG_KEPT)
            without = [value for value in WRONG_PLANS if value is not None or action not in (told, told_from)]
            self.wrong(action, "plan", InvalidPlan, without)
        self.wrong(parted, "other", InvalidPlan, WRONG_PLANS)
        self.wrong(told_from, "node", InvalidNode, WRONG_NODE)
        for action in (reason, denial, is_reason, is_denial):
            self.wrong(action, "pair", InvalidPair, WRONG_PAIRS)

    def test_kept_of_a_lot_without_words(self):
        self.assertEqual(False, is_plan(Lot(), "abc", PLAN))
        self.fails(NotSettled, {"value": "abc"}, told, Lot(), "abc", 3, {})
        self.fails(InvalidKept, {"value": KEPT}, told, Lot(), "abc", 3, KEPT)
        self.fails(InvalidKept, {}, told, LOT, "abc", 3, {})

    def test_the_sequence_of_the_errors(self):
        word = ({"question": ""}, InvalidWord, {"value": ""})
        steps = ({"plan": [(0, "ab", 2)]}, InvalidPlan, {})
        other = ({"other": None}, InvalidPlan, {"value": None})
        nodes = ({"nodes": True}, InvalidNodes, {"value": True})
        kept = ({"kept": {}}, InvalidKept, {})
        node = ({"node": 3}, InvalidNode, {"value": 3})
        pair = ({"pair": (0, 3)}, InvalidPair, {})
        lacks = ({"lot": LESS, "kept": {"ab": [(0, 1)], "bc": [(2, 0)]}}, NotSettled, {"value": "abc"})
        self.sequence(tables, self.good(tables), [word, steps, nodes, kept])
        self.sequence(told, self.good(told), [word, nodes, kept, steps, lacks][:4])
        self.sequence(told, self.good(told), [word, nodes, ({"kept": []}, InvalidKept, {}), lacks])
        self.sequence(told_from, self.good(told_from), [word, nodes, kept, node, steps])
        self.sequence(told_from, self.good(told_from), [word, nodes, ({"kept": []}, InvalidKept, {}), node, lacks])
        self.sequence(parted, self.good(parted), [word, steps, other, nodes, kept])
        for action in (reason, denial, is_reason, is_denial):
            self.sequence(action, self.good(action), [word, steps, nodes, kept, pair])

    def test_invalid_plans_ahead_of_not_settled(self):
        less = {"ab": [(0, 1)], "bc": [(2, 0)]}
        self.fails(InvalidPlan, {"value": PLAN}, told, LESS, "abc", 3, less, PLAN)
        self.fails(InvalidPlan, {"value": PLAN}, told_from, LESS, "abc", 3, less, 0, PLAN)
        self.fails(InvalidPlan, {"value": PLAN}, tables, LESS, "abc", PLAN, 3, less)


if __name__ == "__main__":
    unittest.main()
