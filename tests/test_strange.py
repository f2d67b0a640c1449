"""Values that say that they are equal to everything: they are of no kind that is asked for."""

import unittest
from unittest.mock import ANY

from support import Case
from walksback import atleast, basics, growing, plans, settled, tables, twins, work
from walksback.answers import answer, is_walk, kept
from walksback.errors import (
    InvalidCut, InvalidKept, InvalidLot, InvalidNode, InvalidNodes, InvalidNumber, InvalidOrder, InvalidPair,
    InvalidPlaces, InvalidPlan, InvalidPrices, InvalidTelling, InvalidTie, InvalidTies, InvalidWord, InvalidWords,
    UnknownTie, UnknownWord,
)
from walksback.graphs import Graph
from walksback.lots import Lot
from walksback.places import crossing

LOT = Lot(["ab", "b"])
GRAPH = Graph(2, [(0, "a", 1, 3)])


class EqualToAllTest(Case):
    def test_kinds(self):
        for action in (basics.is_integer, basics.is_count, basics.is_letter, basics.is_word, basics.is_question):
            self.is_bool(False, action(ANY))
        self.is_bool(False, tables.is_relation(2, [(0, ANY)]))
        self.is_bool(False, tables.is_relation(2, ANY))
        for action in (tables.is_matrix, tables.is_cost_table, tables.is_wide):
            self.is_bool(False, action(1, [[ANY]]))
            self.is_bool(False, action(1, [ANY]))
            self.is_bool(False, action(1, ANY))
        self.is_bool(False, ANY in LOT)
        for value in (ANY, (0, "a", 1, ANY), (0, ANY, 1, 3), (ANY, "a", 1, 3)):
            self.is_bool(False, value in GRAPH)
        self.is_bool(False, is_walk(GRAPH, "a", [0, ANY]))
        self.is_bool(False, settled.is_plan(LOT, "ab", [(0, ANY, 2)]))
        self.is_bool(False, settled.is_plan(LOT, "ab", [ANY]))
        self.is_bool(False, settled.is_cut(Lot(), "ab", [0, ANY]))

    def test_errors(self):
        self.fails(InvalidWord, {"value": ANY}, lambda: LOT + ANY)
        self.fails(UnknownWord, {"value": ANY}, lambda: LOT - ANY)
        self.fails(InvalidLot, {"value": ANY}, lambda: LOT | ANY)
        self.fails(InvalidWords, {"position": 0}, Lot, [ANY])
        self.fails(InvalidTie, {"value": ANY}, lambda: GRAPH + ANY)
        self.fails(InvalidTie, {"value": ANY}, lambda: ANY + GRAPH)
        self.fails(UnknownTie, {"value": ANY}, lambda: GRAPH - ANY)
        self.fails(InvalidTies, {"position": 0}, Graph, 2, [ANY])
        self.fails(InvalidOrder, {"value": ANY}, GRAPH.renumbered, ANY)
        self.fails(InvalidPlaces, {"position": 1}, crossing, LOT, "ab", [0, ANY])
        self.fails(InvalidTelling, {"value": ANY}, answer, GRAPH, "a", ANY)
        self.fails(InvalidTelling, {"value": ANY}, kept, GRAPH, LOT, ANY)

    def test_papers(self):
        relations = {"ab": [(0, 1)], "b": [(1, 1)]}
        steps = [(0, "ab", 2)]
        for value in (ANY, (ANY, ANY), [ANY], [ANY, ANY], (GRAPH, ANY)):
            self.is_bool(False, twins.is_parting(Lot(), "ab", value, "many"))
            self.is_bool(False, growing.is_shrinking(Lot(), "ab", value))
            self.is_bool(False, growing.is_chain(LOT, "ab", value))
            self.is_bool(False, plans.are_ranks(LOT, "ab", 0, value))
            self.is_bool(False, work.is_reason(LOT, "ab", steps, 2, relations, (0, 1), value))
            self.is_bool(False, work.is_denial(LOT, "ab", steps, 2, relations, (0, 0), value))
            self.is_bool(False, atleast.is_chain_of(LOT, "ab", 2, relations, (0, 1), value))
        self.is_bool(False, plans.are_ranks(LOT, "ab", 0, [0, ANY, 0]))
        self.is_bool(False, work.is_reason(LOT, "ab", steps, 2, relations, (0, 1), [[0], [ANY]]))
        self.is_bool(False, work.is_denial(LOT, "ab", steps, 2, relations, (0, 0), [[0], [ANY]]))
        for value in ((ANY, "ab", 1), (0, ANY, 1), (0, "ab", ANY)):
            self.is_bool(False, atleast.is_chain_of(LOT, "ab", 2, relations, (0, 1), [value]))

    def test_errors_of_plans_at_work(self):
        relations = {"ab": [(0, 1)], "b": [(1, 1)]}
        steps = [(0, "ab", 2)]
        self.fails(InvalidCut, {"value": ANY}, twins.twins, Lot(), "ab", ANY)
        self.fails(InvalidTelling, {"value": ANY}, twins.first_apart, GRAPH, GRAPH, "a", ANY)
        self.fails(InvalidNumber, {"value": ANY}, plans.how_many, LOT, "ab", ANY)
        self.fails(InvalidNumber, {"value": ANY}, plans.plan_at, LOT, "ab", ANY)
        self.fails(InvalidNumber, {"value": ANY}, plans.are_ranks, LOT, "ab", ANY, None)
        for value in (ANY, (ANY, 0), (0, ANY)):
            self.fails(InvalidPrices, {"value": value}, plans.cheapest_plan, LOT, "ab", value)
            self.fails(InvalidPair, {"value": value}, work.reason, LOT, "ab", steps, 2, relations, value)
        for value in (ANY, [ANY], [(ANY, "ab", 2)], [(0, ANY, 2)], [(0, "ab", ANY)]):
            self.fails(InvalidPlan, {"value": value}, work.tables, LOT, "ab", value, 2, relations)
        self.fails(InvalidNodes, {"value": ANY}, work.told, LOT, "ab", ANY, relations)
        self.fails(InvalidNode, {"value": ANY}, work.told_from, LOT, "ab", 2, relations, ANY)
        for value in (ANY, {**relations, "b": ANY}, {**relations, "b": [ANY]}, {**relations, "b": [(0, ANY)]}):
            self.fails(InvalidKept, {"value": value}, work.told, LOT, "ab", 2, value)
            self.fails(InvalidKept, {"value": value}, atleast.made, LOT, 2, value)


if __name__ == "__main__":
    unittest.main()
