"""walksback.tables: relations, matrices, cost tables, wide tables; products, and what stands back over others."""

import itertools
import unittest

from support import STRANGE, Case, is_plain, seeded, some_ties
from walksback.answers import costs, counts, pairs
from walksback.errors import InvalidMatrix, InvalidNodes, InvalidRelation, InvalidTable, InvalidTelling
from walksback.graphs import Graph
from walksback.lots import Lot
from walksback.tables import (
    back, cost_back, cost_product, count_product, is_cost_table, is_matrix, is_relation, is_wide, is_within, pairs_in,
    product,
)

NO_NODES = STRANGE + (0, 121, 1000, "3", [3], (3,), {3: 3}, Lot(), 10 ** 29)
# All of these are asked of two nodes.
RELATIONS = ([], (), [(0, 0)], [(0, 1), (1, 0)], ((0, 0), (0, 1), (1, 0), (1, 1)))
NO_RELATIONS = (
    [(1, 0), (0, 1)], [(0, 1), (0, 1)], [(0, 1), (0, 0)], [[0, 1]], [(0,)], [(0, 1, 1)], [(0, 2)], [(2, 0)], [(-1, 0)],
    [(0, -1)], [(0, True)], [(False, 1)], [(0, None)], [("0", "1")], [(0, "1")], [([0], 1)], [0, 1], (0, 1),
    {(0, 1): 1}, [None], [(0, 1), None], [(0, 1), [1, 0]], "ab", ["ab"], [((0, 1), (1, 0))], 0, 7, Lot(), Graph(2),
)
MATRICES = ([[0, 0], [0, 0]], ([1, 2], (3, 10 ** 29)), ((0, 1), (1, 0)))
NO_MATRICES = (
    [[0, 0]], [[0, 0], [0]], [[0, 0], [0, 0], [0, 0]], [[0, 0, 0], [0, 0, 0]], [[0, -1], [0, 0]], [[0, True], [0, 0]],
    [[False, 0], [0, 0]], [[0, None], [0, 0]], [[0, "1"], [0, 0]], [[0, [0]], [0, 0]], [0, 0, 0, 0], [[0, 0], "00"],
    [[0, 0], {0: 0, 1: 0}], {0: [0, 0], 1: [0, 0]}, [[0, 0], None], [[0, 0], 0], "ab", [(0, 1)], 0, 7, Graph(2), Lot(),
    [[(0, 1), (0, 1)], [(0, 1), (0, 1)]],
)
COSTS = ([[0, None], [None, 10 ** 20]], ((None, None), (None, None)), [(0, 1), [2, 3]])
NO_COSTS = tuple(value for value in NO_MATRICES if value != [[0, None], [0, 0]]) + (
    [[0, "below"], [0, 0]], [[None, -1], [None, None]], [[None, False], [None, None]], [[None, None], None],
)
WIDES = COSTS + ([[-1, "below"], [None, -(10 ** 20)]], (("below", "below"), ["below", 5]))
NO_WIDES = (
    [[0, 0]], [[0, 0], [0]], [[0, True], [0, 0]], [[False, 0], [0, 0]], [[0, "Below"], [0, 0]], [[0, "above"], [0, 0]],
    [[0, ""], [0, 0]], [[0, ["below"]], [0, 0]], [[0, ()], [0, 0]], ["below", "below"], [[0, 0], "below"], "below",
    [[0, 0], None], {0: [0, 0], 1: [0, 0]}, [[0, b"below"], [0, 0]], [[0, 0], {0: 0, 1: 0}], 0, 7, Lot(), Graph(2),
)
ONE_COSTS = [[0, None], [None, 0]]


def relations(nodes):
    """All relations of so many nodes."""
    every = list(itertools.product(range(nodes), repeat=2))
    return [list(some) for size in range(len(every) + 1) for some in itertools.combinations(every, size)]


def height(value):
    """A key by which wide numbers are compared: "below" is less than each INTEGER, None is greater."""
    return (-1, 0) if value == "below" else (1, 0) if value is None else (0, value)


def wide_sum(one, other):
    return None if one is None or other is None else "below" if one == "below" else one + other


def wide_less(one, other):
    return one if one in ("below", None) else one - other


def some_wide(source, nodes, values):
    return [[source.choice(values) for _ in range(nodes)] for _ in range(nodes)]


class KindTest(Case):
    def test_relations(self):
        for value in RELATIONS:
            self.is_bool(True, is_relation(2, value), value)
        for value in STRANGE + NO_RELATIONS:
            self.is_bool(value in ((), []) and type(value) in (list, tuple), is_relation(2, value), value)
        self.is_bool(False, is_relation(1, [(0, 1)]))
        self.is_bool(True, is_relation(nodes=120, value=[(119, 119)]))
        self.is_bool(True, is_relation(120, [(x, y) for x in range(120) for y in range(120)]))
        self.is_bool(False, is_relation(120, [(x, y) for x in range(120) for y in range(121)]))

    def test_matrices(self):
        for value in MATRICES:
            self.is_bool(True, is_matrix(2, value), value)
        for value in STRANGE + NO_MATRICES:
            self.is_bool(False, is_matrix(2, value), value)
        self.is_bool(True, is_matrix(nodes=1, value=[[5]]))
        self.is_bool(True, is_matrix(120, [[0] * 120] * 120))
        self.is_bool(False, is_matrix(120, [[0] * 120] * 119))
        self.is_bool(False, is_matrix(1, []))

    def test_cost_tables(self):
        for value in COSTS + MATRICES:
            self.is_bool(True, is_cost_table(2, value), value)
        for value in STRANGE + NO_COSTS:
            self.is_bool(False, is_cost_table(2, value), value)
        self.is_bool(True, is_cost_table(nodes=1, value=[[None]]))
        self.is_bool(True, is_cost_table(120, [[None] * 120] * 120))

    def test_wide_tables(self):
        for value in WIDES + MATRICES:
            self.is_bool(True, is_wide(2, value), value)
        for value in STRANGE + NO_WIDES:
            self.is_bool(False, is_wide(2, value), value)
        self.is_bool(True, is_wide(nodes=1, value=[["below"]]))
        self.is_bool(True, is_wide(120, [["below", None] * 60] * 120))

    def test_wrong_nodes(self):
        for action in (is_relation, is_matrix, is_cost_table, is_wide):
            self.fails_for_all(InvalidNodes, NO_NODES, lambda value: action(value, None))
        for action in (product, back, is_within, count_product, cost_product, cost_back):
            self.fails_for_all(InvalidNodes, NO_NODES, lambda value: action(value, None, None))
        self.fails_for_all(InvalidNodes, NO_NODES, lambda value: pairs_in(value, None, None))


class RelationTest(Case):
    def test_product_of_all_relations_of_two_nodes(self):
        for one, other in itertools.product(relations(2), repeat=2):
            self.assertEqual([(x, y) for x in (0, 1) for y in (0, 1)
                              if any((x, z) in one and (z, y) in other for z in (0, 1))], product(2, one, other))

    def test_back_of_all_relations_of_two_nodes(self):
        for one, over in itertools.product(relations(2), repeat=2):
            told = back(2, one, over)
            self.assertEqual([(x, w) for x in (0, 1) for w in (0, 1)
                              if all((x, z) in one for z in (0, 1) if (w, z) in over)], told)
            fitting = [some for some in relations(2) if is_within(2, product(2, some, over), one)]
            self.assertIn(told, fitting)
            for some in fitting:
                self.is_bool(True, is_within(2, some, told))

    def test_is_within_of_all_relations_of_two_nodes(self):
        for one, other in itertools.product(relations(2), repeat=2):
            self.is_bool(set(one) <= set(other), is_within(2, one, other))

    def test_drawn(self):
        source = seeded(40)
        for _ in range(40):
            nodes = source.randint(1, 7)
            every = list(itertools.product(range(nodes), repeat=2))
            one, other = ([pair for pair in every if source.random() < 0.3] for _ in range(2))
            self.assertEqual(sorted({(x, y) for x, z in one for w, y in other if z == w}), product(nodes, one, other))
            self.assertEqual([(x, w) for x, w in every if all((x, z) in one for v, z in other if v == w)],
                             back(nodes, one, other))

    def test_nodes_without_any_pair(self):
        self.assertEqual([], product(3, [], [(0, 1)]))
        self.assertEqual([], product(3, [(0, 1)], [(0, 1), (2, 2)]))
        self.assertEqual([(0, 0), (0, 1), (1, 0), (1, 1)], back(2, [], []))
        self.assertEqual([(0, 1), (1, 1)], back(2, [], [(0, 0)]))
        self.assertEqual([(0, 0)], back(1, [], []))
        self.assertEqual([], back(1, [], [(0, 0)]))

    def test_by_name_and_with_tuples(self):
        self.assertEqual([(0, 0)], product(nodes=2, one=((0, 1),), other=((1, 0),)))
        self.assertEqual([(0, 1)], back(nodes=2, one=((0, 1),), over=((0, 0), (1, 1))))
        self.is_bool(True, is_within(nodes=2, one=(), other=((0, 1),)))

    def test_at_the_limit(self):
        every = [(x, y) for x in range(120) for y in range(120)]
        turned = [(x, (x + 1) % 120) for x in range(120)]
        self.assertEqual([(x, (x + 2) % 120) for x in range(120)], product(120, turned, turned))
        self.assertEqual(every, product(120, every, turned))
        self.assertEqual([(x, x) for x in range(120)], back(120, turned, turned))
        self.assertEqual(every, back(120, every, every))
        self.is_bool(True, is_within(120, turned, every))
        self.is_bool(False, is_within(120, every, turned))

    def test_wrong_relations(self):
        wrong = tuple(value for value in STRANGE + NO_RELATIONS if value not in ((), []))
        for action in (product, back, is_within):
            self.fails_for_all(InvalidRelation, wrong, lambda value: action(2, value, None))
            self.fails_for_all(InvalidRelation, wrong, lambda value: action(2, [(0, 1)], value))


class CountTest(Case):
    def test_drawn(self):
        source = seeded(41)
        for _ in range(40):
            nodes = source.randint(1, 5)
            one, other = (some_wide(source, nodes, (0, 0, 1, 2, 10 ** 25)) for _ in range(2))
            self.assertEqual([[sum(one[x][z] * other[z][y] for z in range(nodes)) for y in range(nodes)]
                              for x in range(nodes)], count_product(nodes, one, other))

    def test_ordinary(self):
        self.assertEqual([[2, 1], [4, 3]], count_product(2, [[1, 2], [3, 4]], ((0, 1), (1, 0))))
        self.assertEqual([[6]], count_product(nodes=1, one=[[2]], other=[[3]]))

    def test_wrong_matrices(self):
        self.fails_for_all(InvalidMatrix, STRANGE + NO_MATRICES, lambda value: count_product(2, value, None))
        self.fails_for_all(InvalidMatrix, STRANGE + NO_MATRICES, lambda value: count_product(2, MATRICES[0], value))


class CostTest(Case):
    def test_product_drawn(self):
        source = seeded(42)
        for _ in range(80):
            nodes = source.randint(1, 4)
            one = some_wide(source, nodes, (None, None, "below", -7, 0, 3, 10 ** 25))
            other = some_wide(source, nodes, (None, None, 0, 1, 5))
            told = cost_product(nodes, one, other)
            self.assertEqual([[min((wide_sum(one[x][z], other[z][y]) for z in range(nodes)), key=height)
                               for y in range(nodes)] for x in range(nodes)], told)
            self.is_bool(True, is_wide(nodes, told))

    def test_back_drawn(self):
        source = seeded(43)
        for _ in range(80):
            nodes = source.randint(1, 4)
            one = some_wide(source, nodes, (None, "below", "below", -7, 0, 3, 10 ** 25))
            over = some_wide(source, nodes, (None, None, 0, 1, 5))
            told = cost_back(nodes, one, over)
            self.assertEqual([[max([wide_less(one[x][z], over[w][z]) for z in range(nodes) if over[w][z] is not None],
                                   key=height, default="below") for w in range(nodes)] for x in range(nodes)], told)
            self.is_bool(True, is_wide(nodes, told))

    def test_product_with_none_and_below(self):
        self.assertEqual([["below", -1], [4, None]], cost_product(2, [["below", -1], [3, None]], [[1, None], [0, 0]]))
        self.assertEqual([["below", "below"], [4, 3]], cost_product(2, [["below", -1], [3, None]], [[1, 0], [0, 0]]))
        self.assertEqual([[None]], cost_product(1, [["below"]], [[None]]))
        self.assertEqual([["below"]], cost_product(1, [["below"]], [[0]]))
        self.assertEqual([[None]], cost_product(1, [[None]], [[0]]))
        self.assertEqual([[-5]], cost_product(nodes=1, one=((-7,),), other=((2,),)))

    def test_back_with_none_and_below(self):
        self.assertEqual([["below"]], cost_back(1, [[None]], [[None]]))
        self.assertEqual([[None]], cost_back(1, [[None]], [[3]]))
        self.assertEqual([["below"]], cost_back(1, [["below"]], [[3]]))
        self.assertEqual([[-3]], cost_back(nodes=1, one=((0,),), over=((3,),)))
        self.assertEqual([[None, -2], ["below", 1]],
                         cost_back(2, [[None, -1], ["below", 2]], [[0, None], [None, 1]]))
        self.assertEqual([[None], [None]], [row[:1] for row in cost_back(2, [["below", None], [5, None]],
                                                                         [[0, 0], [0, 0]])])

    def test_back_is_the_least_table_whose_product_is_at_least_the_one(self):
        source = seeded(44)
        for _ in range(30):
            nodes = source.randint(1, 3)
            one = some_wide(source, nodes, (None, 0, 3, 8))
            over = some_wide(source, nodes, (None, 0, 1, 5))
            again = cost_product(nodes, cost_back(nodes, one, over), over)
            for x, y in itertools.product(range(nodes), repeat=2):
                self.assertGreaterEqual(height(again[x][y]), height(one[x][y]))

    def test_wrong_tables(self):
        for action in (cost_product, cost_back):
            self.fails_for_all(InvalidTable, STRANGE + NO_WIDES, lambda value: action(2, value, None))
            self.fails_for_all(InvalidTable, STRANGE + NO_COSTS, lambda value: action(2, WIDES[-1], value))
            self.fails_for_all(InvalidTable, ([["below", 0], [0, 0]],), lambda value: action(2, ONE_COSTS, value))


class PairsInTest(Case):
    def test_ordinary(self):
        self.assertEqual([(0, 1), (1, 0)], pairs_in(2, "whether", [(0, 1), (1, 0)]))
        self.assertEqual([(0, 1), (1, 0)], pairs_in(2, "whether", ((0, 1), (1, 0))))
        self.assertEqual([(0, 1), (1, 0)], pairs_in(2, "many", [[0, 3], (1, 0)]))
        self.assertEqual([(0, 1), (1, 0)], pairs_in(nodes=2, telling="cheap", table=([None, 0], [5, None])))
        self.assertEqual([[], [], []], [pairs_in(1, "whether", []), pairs_in(1, "many", [[0]]),
                                        pairs_in(1, "cheap", [[None]])])

    def test_answers_in_all_tellings_have_the_same_pairs(self):
        source = seeded(45)
        for _ in range(30):
            nodes = source.randint(1, 5)
            graph = Graph(nodes, some_ties(source, nodes, "ab", 12))
            self.assertEqual(pairs(graph, "ab"), pairs_in(nodes, "many", counts(graph, "ab")))
            self.assertEqual(pairs(graph, "ab"), pairs_in(nodes, "cheap", costs(graph, "ab")))
            self.assertEqual(pairs(graph, "ab"), pairs_in(nodes, "whether", pairs(graph, "ab")))

    def test_wrong_values(self):
        self.fails_for_all(InvalidTelling, STRANGE + ("Many", 0, ["many"], Lot()),
                           lambda value: pairs_in(2, value, None))
        relations_not = tuple(value for value in STRANGE + NO_RELATIONS if value not in ((), []))
        self.fails_for_all(InvalidRelation, relations_not, lambda value: pairs_in(2, "whether", value))
        self.fails_for_all(InvalidMatrix, STRANGE + NO_MATRICES, lambda value: pairs_in(2, "many", value))
        self.fails_for_all(InvalidTable, STRANGE + NO_COSTS, lambda value: pairs_in(2, "cheap", value))


class AnewTest(Case):
    def test_what_is_told_is_new(self):
        relation, matrix, table = [(0, 1), (1, 1)], [[1, 2], [0, 1]], [[0, None], [3, 4]]
        for action in (lambda: product(2, relation, relation), lambda: back(2, relation, relation),
                       lambda: count_product(2, matrix, matrix), lambda: cost_product(2, table, table),
                       lambda: cost_back(2, table, table), lambda: pairs_in(2, "whether", relation),
                       lambda: pairs_in(2, "many", matrix), lambda: pairs_in(2, "cheap", table)):
            self.tells_anew(action)
            self.assertIs(list, type(action()))
            self.assertTrue(is_plain(action()))
        self.assertEqual(([(0, 1), (1, 1)], [[1, 2], [0, 1]], [[0, None], [3, 4]]), (relation, matrix, table))
        self.leaves((2, relation, relation), product)
        self.leaves((2, matrix, matrix), count_product)
        self.leaves((2, table, table), cost_back)


if __name__ == "__main__":
    unittest.main()
