"""walksback.graphs: Graph, its methods and operators."""

import unittest

from support import STRANGE, Case, seeded, some_ties
from walksback.errors import (
    InvalidLetter, InvalidNode, InvalidNodes, InvalidOrder, InvalidTie, InvalidTies, TooMany, UnknownTie,
)
from walksback.graphs import Graph, SoundTies
from walksback.lots import Lot

TIES = [(0, "b", 1, 3), (0, "a", 2, 0), (2, "a", 0, 1000), (0, "a", 1, 7)]
GRAPH = Graph(3, TIES)
# Values that look like ties of three nodes, but are none.
NO_TIES = (
    (3, "a", 0, 0), (0, "a", 3, 0), (-1, "a", 0, 0), (0, "a", -1, 0), (0, "a", 1, -1), (0, "a", 1, 1001),
    (0, "A", 1, 0), (0, "ab", 1, 0), (0, "", 1, 0), (0, 1, 1, 0), (0, None, 1, 0), (0, ["a"], 1, 0),
    (True, "a", 1, 0), (0, "a", True, 0), (0, "a", 1, True), (False, "a", 1, 0), (0, "a", False, 0),
    (0, "a", 1, False), (0, "a", 1), (0, "a", 1, 0, 0), (0, "a", 1, None), (None, "a", 1, 0), ("0", "a", 1, 0),
    ([0], "a", 1, 0), (0, "a", {}, 0), [0, "a", 1, 0], ["a"], "0a10", ((0, "a", 1, 0),),
)
NO_NODES = STRANGE + (0, 121, 1000, "3", [3], (3,), {3: 3}, Lot(), 10 ** 29)


def full_ties(number, nodes=120):
    """So many ties of these nodes, no two with the same first three."""
    return [(k // nodes // 26, "abcdefghijklmnopqrstuvwxyz"[k // nodes % 26], k % nodes, k % 1001)
            for k in range(number)]


class MakingTest(Case):
    def test_parts(self):
        self.assertEqual(3, GRAPH.nodes)
        self.assertEqual([(0, "a", 1, 7), (0, "a", 2, 0), (0, "b", 1, 3), (2, "a", 0, 1000)], GRAPH.ties())
        self.assertEqual((1, []), (Graph(1).nodes, Graph(1).ties()))
        self.assertEqual((2, []), (Graph(2, []).nodes, Graph(2, ()).ties()))
        self.assertEqual([(0, "a", 0, 1)], Graph(nodes=1, ties=((0, "a", 0, 1),)).ties())

    def test_limits(self):
        self.assertEqual((120, 1000), (Graph.MOST_NODES, Graph.MOST_TIES))
        self.assertEqual((120, 1000), (GRAPH.MOST_NODES, GRAPH.MOST_TIES))
        self.assertEqual(120, Graph(120).nodes)
        self.assertEqual([(119, "z", 119, 1000)], Graph(120, [(119, "z", 119, 1000)]).ties())
        self.assertEqual(1000, len(Graph(120, full_ties(1000))))
        self.assertEqual(sorted(full_ties(1000)), Graph(120, full_ties(1000)[::-1]).ties())

    def test_too_many_ties_come_last(self):
        self.fails(TooMany, {"what": "ties", "limit": 1000}, Graph, 120, full_ties(1001))
        self.fails(InvalidTies, {"position": 1001}, Graph, 120, [*full_ties(1001), (0, "a", 0, True)])
        self.fails(InvalidTies, {"position": 1002}, Graph, 120, [*full_ties(1002), (0, "a", 0, 1)])
        self.fails(InvalidNodes, {"value": 121}, Graph, 121, full_ties(1001))

    def test_wrong_nodes(self):
        self.fails_for_all(InvalidNodes, NO_NODES, Graph)
        self.fails_for_all(InvalidNodes, NO_NODES, lambda value: Graph(value, [(0, "a", 0, 0)]))
        self.fails_for_all(InvalidNodes, NO_NODES, lambda value: Graph(value, None))

    def test_no_list_of_ties(self):
        for value in (None, True, 0, "ab", "", {}, {(0, "a", 1, 0): 1}, b"", GRAPH, Lot(), object(), {1}):
            self.fails(InvalidTies, {"position": None}, Graph, 3, value)

    def test_the_first_wrong_tie(self):
        for value in STRANGE + NO_TIES + (0, GRAPH):
            self.fails(InvalidTies, {"position": 0}, Graph, 3, [value])
            self.fails(InvalidTies, {"position": 2}, Graph, 3, [TIES[0], TIES[1], value, TIES[0]])
            self.fails(InvalidTies, {"position": 1}, Graph, 3, (TIES[0], value, None))
        self.fails(InvalidTies, {"position": None}, Graph, 3, (0 for _ in []))
        self.fails(InvalidTies, {"position": 0}, Graph, 3, (0, "a", 1, 0))

    def test_equal_first_three(self):
        self.fails(InvalidTies, {"position": 1}, Graph, 3, [(0, "a", 1, 0), (0, "a", 1, 0)])
        self.fails(InvalidTies, {"position": 2}, Graph, 3, [(0, "a", 1, 0), (0, "b", 1, 0), (0, "a", 1, 1), None])
        self.assertEqual(3, len(Graph(3, [(0, "a", 1, 0), (0, "b", 1, 0), (1, "a", 0, 0)])))

    def test_it_copies_what_it_is_given(self):
        ties = [(0, "a", 1, 0)]
        graph = Graph(3, ties)
        ties.append((0, "b", 1, 0))
        self.assertEqual([(0, "a", 1, 0)], graph.ties())
        graph.ties().clear()
        self.assertEqual(1, len(graph))
        self.leaves((3, list(TIES)), Graph)


class ReadingTest(Case):
    def test_letters(self):
        self.assertEqual(["a", "b"], GRAPH.letters())
        self.assertEqual([], Graph(4).letters())
        self.assertEqual(["c", "x", "z"], Graph(2, [(0, "z", 0, 1), (0, "c", 0, 1), (1, "x", 0, 1)]).letters())

    def test_at(self):
        self.assertEqual([(1, 7), (2, 0)], GRAPH.at(0, "a"))
        self.assertEqual([(1, 3)], GRAPH.at(node=0, letter="b"))
        self.assertEqual([[], [], []], [GRAPH.at(1, "a"), GRAPH.at(0, "z"), Graph(1).at(0, "a")])
        graph = Graph(120, full_ties(1000))
        for node in (0, 1, 119):
            for letter in "abz":
                self.assertEqual(sorted((tie[2], tie[3]) for tie in full_ties(1000) if tie[:2] == (node, letter)),
                                 graph.at(node, letter))

    def test_at_wrong_values(self):
        self.fails_for_all(InvalidNode, STRANGE + (3, 120, "0", [0], (0,), GRAPH), lambda value: GRAPH.at(value, None))
        self.fails_for_all(InvalidLetter, STRANGE + (0, "aa", ["a"], ("a",), GRAPH), lambda value: GRAPH.at(0, value))

    def test_length(self):
        self.assertEqual([0, 4, 1000], [len(Graph(5)), len(GRAPH), len(Graph(120, full_ties(1000)))])

    def test_in_with_any_value(self):
        for tie in TIES:
            self.is_bool(True, tie in GRAPH)
            self.is_bool(False, tie in Graph(3))
            self.is_bool(False, list(tie) in GRAPH)
        others = ((0, "b", 1, 4), (1, "b", 0, 3), (0, "c", 1, 3), (0, "b", 1), (0, "a", True, 7), (False, "a", 1, 7),
                  (0, "a", 2, False), (0, "b", 1, 3, 3), 0, "a", TIES, GRAPH, Graph(3))
        for value in STRANGE + NO_TIES + others:
            self.is_bool(False, value in GRAPH, value)
        self.is_bool(False, (1, "a", 1, 1) in Graph(2, [(1, "a", 1, 0)]))
        self.is_bool(False, (1, "a", 1, True) in Graph(2, [(1, "a", 1, 1)]))
        self.is_bool(False, (True, "a", 1, 1) in Graph(2, [(1, "a", 1, 1)]))

    def test_iteration(self):
        self.assertEqual(sorted(TIES), list(GRAPH))
        self.assertEqual([], [tie for tie in Graph(3)])
        pairs = [(one, other) for one in GRAPH for other in GRAPH]
        self.assertEqual([(one, other) for one in sorted(TIES) for other in sorted(TIES)], pairs)
        for tie in GRAPH:
            self.assertEqual((0, "a", 1, 7), tie)
            break
        self.assertEqual(sorted(TIES), list(GRAPH))
        one, two = iter(GRAPH), iter(GRAPH)
        self.assertEqual([sorted(TIES)[0], sorted(TIES)[0], sorted(TIES)[1]], [next(one), next(two), next(one)])

    def test_equality(self):
        self.is_bool(True, GRAPH == Graph(3, sorted(TIES)))
        self.is_bool(True, Graph(2) == Graph(2, ()))
        self.is_bool(False, Graph(2) == Graph(3))
        self.is_bool(False, GRAPH == Graph(4, TIES))
        self.is_bool(False, GRAPH == Graph(3, TIES[1:]))
        self.is_bool(False, Graph(2, [(0, "a", 1, 0)]) == Graph(2, [(0, "a", 1, 1)]))
        self.is_bool(True, Graph(2) != Graph(3))
        self.is_bool(False, GRAPH != Graph(3, TIES))
        for value in (TIES, sorted(TIES), (3, TIES), None, True, 3, "Graph", Lot(), object(), {}):
            self.is_bool(False, GRAPH == value)
            self.is_bool(False, value == GRAPH)
            self.is_bool(True, GRAPH != value)

    def test_repr(self):
        self.assertEqual("Graph(2, [(0, 'a', 1, 3)])", repr(Graph(2, [(0, "a", 1, 3)])))
        self.assertEqual("Graph(1, [])", repr(Graph(1)))
        self.assertEqual("Graph(2, [(0, 'a', 1, 3), (0, 'b', 0, 1), (1, 'a', 0, 0)])",
                         repr(Graph(2, ((1, "a", 0, 0), (0, "b", 0, 1), (0, "a", 1, 3)))))


class OperatorTest(Case):
    def test_plus_on_either_side(self):
        more = (1, "c", 1, 2)
        for graph in (GRAPH + more, more + GRAPH):
            self.assertEqual(Graph(3, [*TIES, more]), graph)
            self.assertIs(Graph, type(graph))
        self.assertEqual(4, len(GRAPH))
        self.assertEqual(Graph(1, [(0, "a", 0, 0)]), Graph(1) + (0, "a", 0, 0))

    def test_a_tie_gives_way(self):
        for graph in (GRAPH + (0, "a", 1, 8), (0, "a", 1, 8) + GRAPH):
            self.assertEqual([(0, "a", 1, 8), (0, "a", 2, 0), (0, "b", 1, 3), (2, "a", 0, 1000)], graph.ties())
        self.assertEqual(GRAPH, GRAPH + TIES[0])
        self.assertEqual((0, "a", 1, 7), GRAPH.ties()[0])

    def test_plus_no_tie(self):
        for value in STRANGE + NO_TIES + (0, GRAPH, Graph(3), Lot(), TIES, tuple(TIES)):
            self.fails(InvalidTie, {"value": value}, lambda: GRAPH + value)
        for value in STRANGE + NO_TIES + (0, 5, "ab", TIES, tuple(TIES), {}):
            self.fails(InvalidTie, {"value": value}, lambda: value + GRAPH)

    def test_plus_too_many(self):
        full = Graph(120, full_ties(1000))
        self.fails(TooMany, {"what": "ties", "limit": 1000}, lambda: full + (119, "z", 119, 0))
        self.fails(TooMany, {"what": "ties", "limit": 1000}, lambda: (119, "z", 119, 0) + full)
        self.fails(InvalidTie, {"value": None}, lambda: full + None)
        changed = full + (0, "a", 0, 999)
        self.assertEqual((1000, True), (len(changed), (0, "a", 0, 999) in changed))
        self.assertEqual(1000, len(Graph(120, full_ties(999)) + (119, "z", 119, 0)))

    def test_minus(self):
        self.assertEqual(Graph(3, TIES[1:]), GRAPH - TIES[0])
        self.assertEqual(4, len(GRAPH))
        self.assertEqual(Graph(2), Graph(2, [(0, "a", 1, 3)]) - (0, "a", 1, 3))
        others = ((0, "b", 1, 4), (0, "b", 1), (1, "b", 1, 3), (0, "a", True, 7), (0, "a", 2, False), TIES, GRAPH, 0)
        for value in STRANGE + NO_TIES + others:
            self.fails(UnknownTie, {"value": value}, lambda: GRAPH - value)

    def test_turned_round(self):
        self.assertEqual([(0, "a", 2, 1000), (1, "a", 0, 7), (1, "b", 0, 3), (2, "a", 0, 0)], (~GRAPH).ties())
        self.assertEqual(3, (~GRAPH).nodes)
        self.assertEqual(GRAPH, ~~GRAPH)
        self.assertEqual(Graph(2), ~Graph(2))
        full = Graph(120, full_ties(1000))
        self.assertEqual((1000, full), (len(~full), ~~full))


class MethodTest(Case):
    def test_renumbered(self):
        graph = GRAPH.renumbered([1, 2, 0])
        self.assertEqual([(0, "a", 1, 1000), (1, "a", 0, 0), (1, "a", 2, 7), (1, "b", 2, 3)], graph.ties())
        self.assertEqual(GRAPH, graph.renumbered(order=(2, 0, 1)))
        self.assertEqual(GRAPH, GRAPH.renumbered([0, 1, 2]))
        self.assertEqual(Graph(1), Graph(1).renumbered([0]))
        full = Graph(120, full_ties(1000))
        self.assertEqual(full, full.renumbered(list(range(119, -1, -1))).renumbered(tuple(range(119, -1, -1))))

    def test_renumbered_in_a_wrong_order(self):
        wrong = ([0, 1], [0, 1, 2, 3], [0, 1, 1], [1, 2, 3], [-1, 0, 1], [False, True, 2], [0, True, 2], [0, 1, None],
                 [0, 1, "2"], [0, 1, [2]], (0, 0, 0), {0: 0, 1: 1, 2: 2}, "012", range(3), 3, 0, GRAPH, [], ())
        self.fails_for_all(InvalidOrder, STRANGE + wrong, GRAPH.renumbered)

    def test_renumbered_leaves_the_order(self):
        self.leaves(([2, 0, 1],), GRAPH.renumbered)

    def test_beside(self):
        graph = GRAPH.beside(Graph(2, [(1, "c", 0, 5)]))
        self.assertEqual((5, sorted([*TIES, (4, "c", 3, 5)])), (graph.nodes, graph.ties()))
        other = Graph(2, [(1, "c", 0, 5)]).beside(other=GRAPH)
        self.assertEqual(Graph(5, [(1, "c", 0, 5)] + [(a + 2, b, c + 2, d) for a, b, c, d in TIES]), other)
        self.assertEqual(Graph(6, TIES + [(a + 3, b, c + 3, d) for a, b, c, d in TIES]), GRAPH.beside(GRAPH))
        self.assertEqual((3, 4), (GRAPH.nodes, len(GRAPH)))

    def test_beside_at_the_limits(self):
        self.assertEqual(120, Graph(119).beside(Graph(1)).nodes)
        self.fails(TooMany, {"what": "nodes", "limit": 120}, Graph(120).beside, Graph(1))
        self.fails(TooMany, {"what": "nodes", "limit": 120}, Graph(1).beside, Graph(120))
        one, more = Graph(60, full_ties(999, 60)), Graph(60, [(0, "a", 0, 1)])
        self.assertEqual(1000, len(one.beside(more)))
        self.fails(TooMany, {"what": "ties", "limit": 1000}, one.beside, more + (0, "b", 0, 1))
        self.fails(TooMany, {"what": "nodes", "limit": 120}, Graph(61).beside, one.beside(more))
        with self.assertRaises(TooMany) as held:
            Graph(120, full_ties(1000)).beside(Graph(2, [(0, "a", 0, 0)]))
        self.assertEqual("nodes", held.exception.what)

    def test_graphs_that_the_package_makes_may_be_greater(self):
        rows = [(k, "a", (k + 1) % 300, 0) for k in range(300)] + [(k, "b", j, 0) for k in range(30) for j in range(30)]
        great = Graph(300, SoundTies(rows))
        self.assertEqual((300, 1200), (great.nodes, len(great)))
        self.assertEqual(great, ~~great)
        self.assertEqual(1199, len(great - rows[0]))
        self.assertEqual(great, great.renumbered(list(range(300))))
        self.assertIn((299, "a", 0, 0), great)
        self.fails(TooMany, {"what": "ties", "limit": 1000}, lambda: great + (0, "z", 0, 0))
        self.fails(TooMany, {"what": "nodes", "limit": 120}, great.beside, Graph(1))

    def test_against_dicts_of_ties(self):
        source = seeded(20)
        for _ in range(40):
            nodes = source.randint(1, 6)
            ties = some_ties(source, nodes, "abc", 14)
            graph = Graph(nodes, ties)
            table = {tie[:3]: tie[3] for tie in ties}
            order = list(range(nodes))
            source.shuffle(order)
            self.assertEqual(sorted((order[a], b, order[c], d) for a, b, c, d in ties),
                             graph.renumbered(order).ties())
            self.assertEqual(sorted((c, b, a, d) for a, b, c, d in ties), list(~graph))
            more = (source.randrange(nodes), source.choice("abc"), source.randrange(nodes), source.randint(0, 9))
            table[more[:3]] = more[3]
            self.assertEqual(sorted((*first, cost) for first, cost in table.items()), (graph + more).ties())
            self.assertEqual(sorted(set(tie[1] for tie in ties)), graph.letters())

    def test_what_is_told_is_new(self):
        for action in (GRAPH.ties, GRAPH.letters, lambda: GRAPH.at(0, "a"), lambda: list(GRAPH)):
            self.tells_anew(action)
            self.assertIs(list, type(action()))


if __name__ == "__main__":
    unittest.main()
