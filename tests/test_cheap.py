"""walksback.cheap: step tables of a plan, and the cost table that they tell."""

import unittest
from unittest.mock import ANY

from support import STRANGE, Case, is_plain, seeded, some_ties
from test_counting import WRONG_PLANS, WRONG_QUESTIONS, drawn
from walksback.answers import costs
from walksback.answers import kept as kept_answers
from walksback.cheap import is_step_tables, step_tables, told_cheap, told_cheap_from
from walksback.errors import InvalidKept, InvalidNode, InvalidPlan, InvalidWord, NotSettled
from walksback.graphs import Graph
from walksback.lots import Lot
from walksback.plans import plan_at
from walksback.settled import plan

LOT = Lot(["ab", "b", "bc"])
LESS = Lot(["ab", "bc"])
PLAN = [(0, "ab", 2), (2, "b", 1), (1, "bc", 3)]
GRAPH = Graph(4, [(0, "a", 1, 2), (1, "b", 2, 3), (2, "c", 3, 4)])
KEPT = kept_answers(GRAPH, LOT, "cheap")
ONE = {"ab": [[1]], "b": [[None]], "bc": [[0]]}
WRONG_KEPT = STRANGE + (
    {"ab": [[1]], "b": [[1]]}, {**ONE, "a": [[1]]}, {**ONE, "b": None}, {**ONE, "b": [[True]]}, {**ONE, "b": [[False]]},
    {**ONE, "b": [[-1]]}, {**ONE, "b": [["below"]]}, {**ONE, "b": [["1"]]}, {**ONE, "b": [1]}, {**ONE, "b": [[1, 1]]},
    {**ONE, "b": [[1, 0], [0, 1]]}, {**ONE, "ab": [[1, 0], [0, 1]]}, {**ONE, "bc": [[1, 0], [0, 1]]}, {**ONE, "b": []},
    {word: [] for word in LOT}, {word: [[]] for word in LOT}, {"ab": [[1]], "b": [[1]], True: [[1]]},
    {"ab": [[1]], "b": [[1]], None: [[1]]}, {"ab": [[1]], "b": [[1]], "BC": [[1]]}, [("ab", [[1]])], LOT, GRAPH, 0,
    {**ONE, "b": {0: [1]}}, {**ONE, "b": [{0: 1}]}, {**ONE, "b": [(0, 0)]}, {**ONE, "b": [[[1]]]}, {**ONE, "b": "1"},
    {word: [[0] * 121 for _ in range(121)] for word in LOT}, {**ONE, "b": [[1], [1]]}, {**ONE, "b": [[ANY]]},
    {**ONE, "b": [ANY]}, {**ONE, "b": ANY}, {**ONE, "ab": None}, {**ONE, "ab": "1"},
)


def times(one, other):
    """The product of a wide table and a cost table, as the document tells it."""
    told = []
    for row in one:
        told.append([])
        for y in range(len(other)):
            sums = [(row[z], other[z][y]) for z in range(len(other)) if row[z] is not None and other[z][y] is not None]
            if any(wide == "below" for wide, _ in sums):
                told[-1].append("below")
            else:
                told[-1].append(min((wide + cost for wide, cost in sums), default=None))
    return told


def back_over(one, other):
    """A wide table back over a cost table, as the document tells it."""
    told = []
    for row in one:
        told.append([])
        for w in range(len(other)):
            rests = ["below"]
            for z in range(len(other)):
                if other[w][z] is not None:
                    rests.append(row[z] if row[z] is None or row[z] == "below" else row[z] - other[w][z])
            numbers = [rest for rest in rests if rest is not None and rest != "below"]
            told[-1].append(None if None in rests else max(numbers) if numbers else "below")
    return told


def at_work(steps, nodes, kept):
    """The step tables of a plan."""
    told = [[[0 if x == y else None for y in range(nodes)] for x in range(nodes)]]
    for begin, word, end in steps:
        told.append(times(told[-1], kept[word]) if begin < end else back_over(told[-1], kept[word]))
    return told


def drawn_costs(number, rounds=120):
    """Tuples (lot, question, steps, nodes, kept, graph or None), with cost tables of graphs and of no graph."""
    source = seeded(number)
    for lot, question, steps, nodes, _, graph in drawn(number, rounds):
        if graph is not None:
            yield lot, question, steps, nodes, kept_answers(graph, lot, "cheap"), graph
        else:
            kept = {word: [[source.choice((None, None, 0, 1, 5, 1000)) for _ in range(nodes)] for _ in range(nodes)]
                    for word in lot}
            yield lot, question, steps, nodes, kept, None


class CheapTest(Case):
    def test_ordinary(self):
        self.assertEqual([None, None, None, 9], told_cheap_from(LOT, "abc", KEPT, 0))
        self.assertEqual(["below", 2, "below", "below"], step_tables(LOT, "abc", KEPT)[2][0])
        self.assertEqual(costs(GRAPH, "abc"), told_cheap(LOT, "abc", KEPT))
        self.assertEqual(costs(GRAPH, "abc"), told_cheap(lot=LOT, question="abc", kept=KEPT, plan=PLAN))
        self.assertEqual([None, None, None, 9], told_cheap_from(lot=LOT, question="abc", kept=KEPT, node=0, plan=PLAN))
        self.assertEqual(at_work(PLAN, 4, KEPT), step_tables(lot=LOT, question="abc", kept=KEPT, plan=PLAN))
        self.is_bool(True, is_step_tables(lot=LOT, question="abc", kept=KEPT, value=at_work(PLAN, 4, KEPT), plan=PLAN))

    def test_numbers_below_0(self):
        # Of no graph: ab costs less than b, which is a part of it.
        kept = {"ab": [[1]], "b": [[5]], "bc": [[2]]}
        self.assertEqual([[[0]], [[1]], [[-4]], [[-2]]], step_tables(LOT, "abc", kept))
        self.assertEqual([[-2]], told_cheap(LOT, "abc", kept))
        self.assertEqual([[[0]], [[1]], [["below"]], [["below"]]], step_tables(LOT, "abc", {**kept, "b": [[None]]}))
        self.assertEqual([[[0]], [[None]], [[None]], [[None]]], step_tables(LOT, "abc", {**kept, "ab": [[None]]}))
        self.assertEqual(["below"], told_cheap_from(LOT, "abc", {**kept, "b": [[None]]}, 0))

    def test_against_the_definition(self):
        seen = {"below": 0, "None": 0, "less": 0}
        for lot, question, steps, nodes, kept, _ in drawn_costs(370):
            expected = at_work(steps, nodes, kept)
            told = step_tables(lot, question, kept, steps)
            self.assertEqual(expected, told)
            self.assertTrue(is_plain(told))
            self.assertEqual(expected[-1], told_cheap(lot, question, kept, steps))
            for node in range(nodes):
                self.assertEqual(expected[-1][node], told_cheap_from(lot, question, kept, node, steps))
            self.assertEqual(at_work(plan(lot, question), nodes, kept), step_tables(lot, question, kept))
            self.assertEqual(at_work(plan(lot, question), nodes, kept)[-1], told_cheap(lot, question, kept))
            self.is_bool(True, is_step_tables(lot, question, kept, expected, steps))
            numbers = [number for table in expected for row in table for number in row]
            seen["below"] += "below" in numbers
            seen["None"] += None in numbers
            seen["less"] += any(isinstance(number, int) and number < 0 for number in numbers)
        self.assertGreater(min(seen.values()), 4, seen)

    def test_each_plan_tells_the_cost_table_of_each_graph(self):
        for lot, question, steps, nodes, kept, graph in drawn_costs(371):
            if graph is not None:
                for some in (None, steps, tuple(steps), plan_at(lot, question, 0)):
                    told = told_cheap(lot, question, kept, some)
                    self.assertEqual(costs(graph, question), told)
                    self.assertEqual(told, step_tables(lot, question, kept, some)[-1])
                    for node in range(nodes):
                        self.assertEqual(told[node], told_cheap_from(lot, question, kept, node, some))

    def test_more_nodes(self):
        source = seeded(372)
        for nodes in (9, 30, 120):
            graph = Graph(nodes, some_ties(source, nodes, "abc", 5 * nodes))
            kept = kept_answers(graph, LOT, "cheap")
            expected = costs(graph, "abc")
            self.assertEqual(expected[nodes - 1], told_cheap_from(LOT, "abc", kept, nodes - 1))
            if nodes < 100:
                self.assertEqual(expected, told_cheap(LOT, "abc", kept))
        self.fails(InvalidNode, {"value": 120}, told_cheap_from, LOT, "abc", kept, 120)

    def test_questions_of_24_letters(self):
        lot = Lot(["a" * 5, "a" * 7])
        graph = Graph(3, [(0, "a", 1, 4), (1, "a", 2, 0), (2, "a", 0, 1000), (0, "a", 0, 7)])
        kept = kept_answers(graph, lot, "cheap")
        self.assertEqual(costs(graph, "a" * 24), told_cheap(lot, "a" * 24, kept))

    def test_great_numbers(self):
        kept = {"ab": [[10 ** 29]], "b": [[1]], "bc": [[10 ** 29]]}
        self.assertEqual([[2 * 10 ** 29 - 1]], told_cheap(LOT, "abc", kept))

    def test_lists_tuples_and_the_sequence_of_keys(self):
        kept = {word: tuple(tuple(row) for row in KEPT[word]) for word in ("bc", "b", "ab")}
        told = step_tables(LOT, "abc", KEPT)
        self.assertEqual(told, step_tables(LOT, "abc", kept, tuple(PLAN)))
        self.is_bool(True, is_step_tables(LOT, "abc", kept, tuple(tuple(map(tuple, table)) for table in told)))
        self.assertEqual(told[-1], told_cheap(LOT, "abc", kept))

    def test_what_is_told_is_new(self):
        self.tells_anew(lambda: step_tables(LOT, "abc", KEPT))
        self.tells_anew(lambda: told_cheap(LOT, "abc", KEPT))
        self.tells_anew(lambda: told_cheap_from(LOT, "abc", KEPT, 0))
        tuples = {word: ((0,),) for word in LOT}
        self.assertEqual([[[0]]] * 4, step_tables(LOT, "abc", tuples))
        self.assertEqual([0], told_cheap_from(LOT, "abc", tuples, 0))
        self.leaves((LOT, "abc", dict(KEPT), list(PLAN)), step_tables)
        self.leaves((LOT, "abc", dict(KEPT), at_work(PLAN, 4, KEPT), list(PLAN)), is_step_tables)


class IsStepTablesTest(Case):
    def test_one_number_otherwise(self):
        good = at_work(PLAN, 4, KEPT)
        for at in range(4):
            for x in range(4):
                for y in range(4):
                    for value in (0, 1, 2, 5, 9, -1, None, "below", True, False, "Below", (1, 1), [0], "0", ANY, ""):
                        some = [[list(row) for row in table] for table in good]
                        some[at][x][y] = value
                        right = value == good[at][x][y] and not isinstance(value, bool) and value is not ANY
                        self.is_bool(right, is_step_tables(LOT, "abc", KEPT, some), value)

    def test_any_value(self):
        good = at_work(PLAN, 4, KEPT)
        wrong = (good[:3], [*good, good[3]], good[::-1], good[0], {0: good}, [good], "tables", 0, LOT, GRAPH,
                 [*good[:3], None], [*good[:3], []], [*good[:3], good[3][:3]], [None, *good[1:]],
                 [*good[:3], [row[:3] for row in good[3]]], [*good[:3], [*good[3], good[3][0]]], [good[1], *good[1:]],
                 [ANY] * 4, ANY, [[ANY] * 4] * 4, [[[ANY] * 4] * 4] * 4, [*good[:3], "1234"], [*good[:3], [None] * 4])
        for value in STRANGE + wrong:
            self.is_bool(False, is_step_tables(LOT, "abc", KEPT, value), value)
            self.is_bool(False, is_step_tables(LOT, "abc", KEPT, value, PLAN), value)

    def test_of_another_plan(self):
        longer = [*PLAN, (3, "bc", 1), (1, "bc", 3)]
        self.is_bool(False, is_step_tables(LOT, "abc", KEPT, at_work(longer, 4, KEPT)))
        self.is_bool(True, is_step_tables(LOT, "abc", KEPT, at_work(longer, 4, KEPT), longer))


class ErrorsTest(Case):
    def good(self, action):
        """Keyword arguments with which the action raises nothing."""
        told = {"lot": LOT, "question": "abc", "kept": KEPT, "plan": None}
        more = {told_cheap_from: {"node": 0}, is_step_tables: {"value": 0}}
        return {**told, **more.get(action, {})}

    def test_each_parameter(self):
        for action in (step_tables, is_step_tables, told_cheap, told_cheap_from):
            for name, error, values in (("question", InvalidWord, WRONG_QUESTIONS), ("kept", InvalidKept, WRONG_KEPT),
                                        ("plan", InvalidPlan, WRONG_PLANS)):
                for value in values:
                    self.fails(error, {"value": value}, action, **{**self.good(action), name: value})
        for value in STRANGE + (4, 5, 121, "0", [0], (0,), {0: 0}, LOT):
            self.fails(InvalidNode, {"value": value}, told_cheap_from, LOT, "abc", KEPT, value)

    def test_the_sequence_of_the_errors(self):
        less = {"ab": KEPT["ab"], "bc": KEPT["bc"]}
        word = ({"question": "1"}, InvalidWord, {"value": "1"})
        kept = ({"kept": {}}, InvalidKept, {})
        steps = ({"plan": []}, InvalidPlan, {})
        lacks = ({"lot": LESS, "kept": less}, NotSettled, {"value": "abc"})
        node = ({"node": True}, InvalidNode, {"value": True})
        for action in (step_tables, is_step_tables, told_cheap):
            self.sequence(action, self.good(action), [word, kept, steps])
            self.sequence(action, self.good(action), [word, ({"kept": None}, InvalidKept, {}), lacks])
        self.sequence(told_cheap_from, self.good(told_cheap_from), [word, kept, steps, node])
        self.sequence(told_cheap_from, self.good(told_cheap_from), [word, lacks, node])
        self.fails(InvalidPlan, {"value": PLAN}, told_cheap, LESS, "abc", less, PLAN)

    def test_kept_of_one_word(self):
        for kept in ({"a": []}, {"a": [[]]}, {"a": [[0] * 121] * 121}, {"a": None}, {"a": 0}, {"a": [[0], [0]]}):
            self.fails(InvalidKept, {"value": kept}, told_cheap, Lot(["a"]), "aa", kept)
        self.assertEqual([[4]], told_cheap(Lot(["a"]), "aa", {"a": [[2]]}))

    def test_kept_of_a_lot_without_words(self):
        for action in (step_tables, told_cheap):
            self.fails(NotSettled, {"value": "abc"}, action, Lot(), "abc", {})
            self.fails(InvalidPlan, {"value": PLAN}, action, Lot(), "abc", {}, PLAN)
            self.fails_for_all(InvalidKept, [ONE, [], None, {"a": [[1]]}], lambda kept: action(Lot(), "abc", kept))
        self.fails(NotSettled, {"value": "abc"}, told_cheap_from, Lot(), "abc", {}, 0)
        self.fails(NotSettled, {"value": "abc"}, is_step_tables, Lot(), "abc", {}, [])


if __name__ == "__main__":
    unittest.main()
