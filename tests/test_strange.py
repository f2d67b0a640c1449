"""Values that say that they are equal to everything: they are of no kind that is asked for."""

import unittest
from unittest.mock import ANY

from support import Case
from walksback import basics, settled, tables
from walksback.answers import answer, is_walk, kept
from walksback.errors import (
    InvalidLot, InvalidOrder, InvalidPlaces, InvalidTelling, InvalidTie, InvalidTies, InvalidWord, InvalidWords,
    UnknownTie, UnknownWord,
)
from walksback.graphs import Graph
from walksback.lots import Lot
from walksback.places import crossing

LOT = Lot(["ab", "b"])
GRAPH = Graph(2, [(0, "a", 1, 3)])


class EqualToAllTest(Case):
    def test_kinds(self):
        for action in (basics.is_integer, basics.is_count, basics.is_letter, basics.is_word, basics.is_question):
            self.is_bool(False, action(ANY))
        self.is_bool(False, tables.is_relation(2, [(0, ANY)]))
        self.is_bool(False, tables.is_relation(2, ANY))
        for action in (tables.is_matrix, tables.is_cost_table, tables.is_wide):
            self.is_bool(False, action(1, [[ANY]]))
            self.is_bool(False, action(1, [ANY]))
            self.is_bool(False, action(1, ANY))
        self.is_bool(False, ANY in LOT)
        for value in (ANY, (0, "a", 1, ANY), (0, ANY, 1, 3), (ANY, "a", 1, 3)):
            self.is_bool(False, value in GRAPH)
        self.is_bool(False, is_walk(GRAPH, "a", [0, ANY]))
        self.is_bool(False, settled.is_plan(LOT, "ab", [(0, ANY, 2)]))
        self.is_bool(False, settled.is_plan(LOT, "ab", [ANY]))
        self.is_bool(False, settled.is_cut(Lot(), "ab", [0, ANY]))

    def test_errors(self):
        self.fails(InvalidWord, {"value": ANY}, lambda: LOT + ANY)
        self.fails(UnknownWord, {"value": ANY}, lambda: LOT - ANY)
        self.fails(InvalidLot, {"value": ANY}, lambda: LOT | ANY)
        self.fails(InvalidWords, {"position": 0}, Lot, [ANY])
        self.fails(InvalidTie, {"value": ANY}, lambda: GRAPH + ANY)
        self.fails(InvalidTie, {"value": ANY}, lambda: ANY + GRAPH)
        self.fails(UnknownTie, {"value": ANY}, lambda: GRAPH - ANY)
        self.fails(InvalidTies, {"position": 0}, Graph, 2, [ANY])
        self.fails(InvalidOrder, {"value": ANY}, GRAPH.renumbered, ANY)
        self.fails(InvalidPlaces, {"position": 1}, crossing, LOT, "ab", [0, ANY])
        self.fails(InvalidTelling, {"value": ANY}, answer, GRAPH, "a", ANY)
        self.fails(InvalidTelling, {"value": ANY}, kept, GRAPH, LOT, ANY)


if __name__ == "__main__":
    unittest.main()
