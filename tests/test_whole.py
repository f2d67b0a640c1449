"""The whole document: what it promises of all functions, methods and objects of the package."""

import copy
import importlib
import unittest

from support import Case, is_plain
from test_interface import CLASSES, FUNCTIONS
from walksback.commuting import Exchanges
from walksback.desk import Desk
from walksback.fractions import Ratio
from walksback.graphs import Graph
from walksback.lots import Lot
from walksback.machines import Machine
from walksback.turns import Net, Turns

LOT = Lot(["ab", "b", "bc"])
LESS = Lot(["ab", "bc"])
GRAPH = Graph(3, [(0, "a", 1, 7), (0, "a", 2, 5), (1, "b", 2, 1), (2, "b", 2, 0)])
OTHER = Graph(3, [(0, "a", 1, 7), (1, "b", 0, 1)])
PLAN = [(0, "ab", 2), (2, "b", 1), (1, "bc", 3)]
KEPT = {"ab": [(0, 1)], "b": [(2, 1)], "bc": [(2, 0)]}
COUNTS = {"ab": [[0, 1], [0, 0]], "b": [[1, 0], [0, 1]], "bc": [[0, 2], [0, 0]]}
COSTS = {"ab": [[3, None], [None, 2]], "b": [[1, None], [None, 1]], "bc": [[2, 5], [None, 4]]}
PRICES = {"a": 3, "b": 1, "c": 4, "bc": 2, "abc": 5}
BC = Exchanges([("b", "c")])
SOME = Lot(["b", "ac"])
EVEN = Machine("ab", [[1, 0], [0, 1]], [0])
ENDS = Machine("ab", [[0, 1], [0, 1]], [1])
TURNS = Turns(3, {"b": [1, 2, 0], "a": [0, 2, 1]})
RELATION, RELATION_TOO = [(0, 1), (1, 2)], [(1, 2), (2, 0)]
TABLE, WIDE = [[0, None], [2, 1]], [["below", None], [-2, 1]]
ROWS = [[2, 0], [0, 3]]

QUESTION = {"lot": LOT, "question": "abc"}
OPEN = {"lot": LESS, "question": "abc"}
WORK = {"lot": LOT, "question": "abc", "plan": PLAN, "nodes": 3, "kept": KEPT}
PAIR = {"lot": LOT, "question": "abbc", "nodes": 3, "kept": {"ab": [(0, 1)], "b": [], "bc": [(1, 2)]}, "pair": (0, 2)}
PRICED = {"lot": Lot(["ab"]), "prices": PRICES, "questions": ["abc"]}
EXCHANGED = {"exchanges": BC, "lot": SOME, "question": "abc"}
CUT = {"exchanges": BC, "lot": Lot(["ab"]), "question": "abc"}
CLAIM = ("sure", *PAIR.values())

# Good arguments for each function, by name, in the sequence of the parameters.
GOOD = {
    ("basics", "is_integer"): {"value": 3}, ("basics", "is_count"): {"value": 3},
    ("basics", "is_letter"): {"value": "a"}, ("basics", "is_word"): {"value": "ab"},
    ("basics", "is_question"): {"value": "ab"},
    ("basics", "in_sequence"): {"words": ["b", "ab", "a"]}, ("basics", "backwards"): {"word": "ab"},
    ("places", "found_at"): {"question": "aaa", "word": "aa"}, ("places", "bridges"): QUESTION,
    ("places", "bridges_at"): {**QUESTION, "place": 1}, ("places", "classes"): QUESTION,
    ("places", "joined_to"): {**QUESTION, "place": 1}, ("places", "are_joined"): {**QUESTION, "place": 1, "second": 2},
    ("places", "forth_from"): {**QUESTION, "place": 1}, ("places", "forth_to"): {**QUESTION, "place": 2},
    ("places", "crossing"): {**QUESTION, "places": [0, 1]},
    ("answers", "pairs"): {"graph": GRAPH, "word": "ab"}, ("answers", "counts"): {"graph": GRAPH, "word": "ab"},
    ("answers", "costs"): {"graph": GRAPH, "word": "ab"},
    ("answers", "answer"): {"graph": GRAPH, "word": "ab", "telling": "many"},
    ("answers", "kept"): {"graph": GRAPH, "lot": LOT, "telling": "cheap"},
    ("answers", "many_walks"): {"graph": GRAPH, "word": "ab"},
    ("answers", "walk"): {"graph": GRAPH, "word": "ab", "begin": 0, "end": 2},
    ("answers", "cheapest_walk"): {"graph": GRAPH, "word": "ab", "begin": 0, "end": 2},
    ("answers", "is_walk"): {"graph": GRAPH, "word": "ab", "value": [0, 1, 2]},
    ("tables", "is_relation"): {"nodes": 3, "value": RELATION}, ("tables", "is_matrix"): {"nodes": 2, "value": ROWS},
    ("tables", "is_cost_table"): {"nodes": 2, "value": TABLE}, ("tables", "is_wide"): {"nodes": 2, "value": WIDE},
    ("tables", "product"): {"nodes": 3, "one": RELATION, "other": RELATION_TOO},
    ("tables", "back"): {"nodes": 3, "one": RELATION, "over": RELATION_TOO},
    ("tables", "is_within"): {"nodes": 3, "one": RELATION, "other": RELATION_TOO},
    ("tables", "count_product"): {"nodes": 2, "one": ROWS, "other": [[1, 2], [3, 4]]},
    ("tables", "cost_product"): {"nodes": 2, "one": WIDE, "other": TABLE},
    ("tables", "cost_back"): {"nodes": 2, "one": WIDE, "over": TABLE},
    ("tables", "pairs_in"): {"nodes": 2, "telling": "cheap", "table": TABLE},
    ("settled", "is_settled"): QUESTION, ("settled", "steps_at"): {**QUESTION, "place": 2},
    ("settled", "plan"): QUESTION, ("settled", "is_plan"): {**QUESTION, "value": PLAN},
    ("settled", "distances"): QUESTION, ("settled", "cut"): OPEN,
    ("settled", "greatest_cut"): OPEN, ("settled", "cut_count"): OPEN,
    ("settled", "is_cut"): {**OPEN, "value": [0, 2]},
    ("twins", "twins"): {**OPEN, "cut": [0, 2]}, ("twins", "is_parting"): {**OPEN, "value": None, "telling": "many"},
    ("twins", "first_apart"): {"one": GRAPH, "other": OTHER, "word": "ab", "telling": "cheap"},
    ("twins", "unlike_words"): {"lot": LOT, "one": GRAPH, "other": OTHER, "telling": "whether"},
    ("growing", "does_grow"): QUESTION, ("growing", "chain"): {"lot": LOT, "question": "abbc"},
    ("growing", "is_chain"): {"lot": LOT, "question": "abbc", "value": ["ab", "bc"]},
    ("growing", "chain_count"): QUESTION, ("growing", "shrinking"): QUESTION,
    ("growing", "is_shrinking"): {**QUESTION, "value": (GRAPH, OTHER)},
    ("plans", "how_many"): {**QUESTION, "steps": 5}, ("plans", "plan_at"): {**QUESTION, "number": 0},
    ("plans", "cheapest_plan"): {**QUESTION, "fares": (1, 3)}, ("plans", "fewest_backs"): QUESTION,
    ("plans", "ranks"): QUESTION, ("plans", "are_ranks"): {**QUESTION, "number": 1, "value": [0, 1, 0, 1]},
    ("work", "tables"): WORK, ("work", "told"): {**QUESTION, "nodes": 3, "kept": KEPT, "plan": PLAN},
    ("work", "told_from"): {**QUESTION, "nodes": 3, "kept": KEPT, "node": 0, "plan": PLAN},
    ("work", "parted"): {**QUESTION, "plan": PLAN, "other": PLAN, "nodes": 3, "kept": KEPT},
    ("work", "reason"): {**WORK, "pair": (0, 0)}, ("work", "denial"): {**WORK, "pair": (0, 1)},
    ("work", "is_reason"): {**WORK, "pair": (0, 0), "value": [[0], [1], [0, 1, 2], [0]]},
    ("work", "is_denial"): {**WORK, "pair": (0, 1), "value": [[0], [1], [0, 1, 2], [0]]},
    ("atleast", "sure"): {name: PAIR[name] for name in ("lot", "question", "nodes", "kept")},
    ("atleast", "chain_of"): PAIR, ("atleast", "is_chain_of"): {**PAIR, "value": [(0, "ab", 1), (1, "bc", 2)]},
    ("atleast", "made"): {"lot": LOT, "nodes": 3, "kept": KEPT},
    ("fractions", "is_fraction"): {"value": (1, 2)}, ("fractions", "solution"): {"rows": ROWS, "right": [1, 1]},
    ("fractions", "bar"): {"rows": [[1, 1]], "right": [1, 2]}, ("fractions", "rank"): {"rows": ROWS},
    ("counting", "count_paper"): {**QUESTION, "kept": COUNTS, "plan": PLAN},
    ("counting", "is_count_paper"): {**QUESTION, "kept": COUNTS, "value": [[[(1, 1)]]], "plan": PLAN},
    ("counting", "freedom"): {**QUESTION, "kept": COUNTS, "plan": PLAN},
    ("counting", "told_many"): {**QUESTION, "kept": COUNTS, "plan": PLAN},
    ("counting", "told_many_from"): {**QUESTION, "kept": COUNTS, "node": 0, "plan": PLAN},
    ("cheap", "step_tables"): {**QUESTION, "kept": COSTS, "plan": PLAN},
    ("cheap", "told_cheap"): {**QUESTION, "kept": COSTS, "plan": PLAN},
    ("cheap", "told_cheap_from"): {**QUESTION, "kept": COSTS, "node": 1, "plan": PLAN},
    ("cheap", "is_step_tables"): {**QUESTION, "kept": COSTS, "value": [TABLE], "plan": PLAN},
    ("base", "base"): {"lot": LOT}, ("base", "needless"): {"lot": LOT}, ("base", "needed"): QUESTION,
    ("base", "further"): {**OPEN, "most": 2}, ("base", "is_further"): {**OPEN, "value": "a"},
    ("choosing", "least_price"): PRICED, ("choosing", "cheapest"): PRICED, ("choosing", "least_choices"): PRICED,
    ("choosing", "is_choice"): {**PRICED, "value": Lot(["c"])}, ("choosing", "tree"): {**PRICED, "number": 2},
    ("choosing", "is_tree"): {**PRICED, "number": 2, "value": (0, [0, 2], [("b", (0, [0, 1, 2], []))])},
    ("allwords", "machine_of"): {"lot": LOT, "letters": "abc"},
    ("allwords", "how_many"): {"lot": LOT, "letters": "abc", "size": 3},
    ("allwords", "first_unsettled"): {"lot": LOT, "letters": "abc"},
    ("allwords", "last_unsettled"): {"lot": Lot(["aaa", "aaaa"]), "letters": "a"},
    ("allwords", "family"): {"lot": LOT, "letters": "abc"},
    ("allwords", "is_family"): {"lot": LOT, "letters": "abc", "value": ("a", "c", "")},
    ("likelots", "covers"): {"one": LOT, "other": LESS}, ("likelots", "say_the_same"): {"one": LOT, "other": LESS},
    ("likelots", "parting_word"): {"one": LOT, "other": LESS},
    ("likelots", "settled_by_both"): {"one": LOT, "other": LESS, "letters": "abc"},
    ("likelots", "settled_by_one"): {"one": LOT, "other": LESS, "letters": "abc"},
    ("commuting", "form"): {"exchanges": BC, "word": "acb"},
    ("commuting", "are_like"): {"exchanges": BC, "one": "acb", "other": "abc"},
    ("commuting", "does_keep"): {"exchanges": BC, "graph": GRAPH},
    ("commuting", "beginnings"): {"exchanges": BC, "question": "abc"},
    ("commuting", "rest"): {"exchanges": BC, "question": "abc", "beginning": "ac"},
    ("commuting", "how_many_like"): {"exchanges": BC, "question": "abc"}, ("commuting", "leaps"): EXCHANGED,
    ("commuting", "does_settle"): EXCHANGED, ("commuting", "way"): EXCHANGED,
    ("commuting", "is_way"): {**EXCHANGED, "value": [("", "ac", "ac"), ("ac", "b", "abc")]}, ("commuting", "rift"): CUT,
    ("commuting", "is_rift"): {**CUT, "value": ["", "ab"]}, ("commuting", "apart"): {**CUT, "rift": ["", "ab"]},
    ("commuting", "told_under"): {**EXCHANGED, "nodes": 3, "kept": {"b": [(0, 1)], "ac": [(0, 0)]}},
    ("turns", "reduced"): {"signed": "abBa"}, ("turns", "gone_back"): {"signed": "abBa"},
    ("turns", "does_settle_turn"): {"lot": LOT, "signed": "aC"}, ("turns", "folds"): {"lot": LOT, "signed": "aC"},
    ("turns", "are_folds"): {"lot": LOT, "signed": "aC", "value": [("B", 0, 1)]},
    ("turns", "turn_twins"): {"lot": LESS, "signed": "a"},
    ("turns", "are_turn_twins"): {"lot": LESS, "signed": "a", "value": (TURNS, TURNS)},
    ("turns", "told_turn"): {"lot": Lot(["ab", "b"]), "signed": "a", "kept": {"ab": [2, 0, 1], "b": [1, 2, 0]}},
    ("texts", "lot_text"): {"lot": LOT}, ("texts", "graph_text"): {"graph": GRAPH},
    ("texts", "kept_text"): {"lot": LOT, "nodes": 3, "kept": KEPT}, ("texts", "read_lot"): {"text": "word a\n"},
    ("texts", "read_graph"): {"text": "nodes 2\ntie 0 a 1 3\n"},
    ("texts", "read_kept"): {"lot": Lot(["a"]), "nodes": 2, "text": "kept a\npair 0 1\n"},
    ("claims", "is_claim"): {"value": CLAIM}, ("claims", "is_true"): {"claim": CLAIM},
    ("claims", "paper_of"): {"claim": CLAIM},
    ("claims", "is_paper"): {"claim": CLAIM, "value": [(0, "ab", 1), (1, "bc", 2)]},
    ("desk", "tried"): {"desk": Desk(), "action": len},
}

# An object of each class that never changes, with good arguments for its methods.
OBJECTS = {
    ("lots", "Lot"): (LOT, {"words": {}, "letters": {}, "longest": {}, "shortest": {}, "backwards": {},
                            "renamed": {"names": {"a": "b", "b": "c", "c": "a"}}, "is_within": {"other": LESS}}),
    ("graphs", "Graph"): (GRAPH, {"ties": {}, "letters": {}, "at": {"node": 0, "letter": "a"},
                                  "renumbered": {"order": [2, 0, 1]}, "beside": {"other": OTHER}}),
    ("fractions", "Ratio"): (Ratio(1, 2), {"pair": {}, "over": {"other": 3}}),
    ("machines", "Machine"): (EVEN, {"letters": {}, "rows": {}, "letting": {}, "goes": {"string": "ab"}, "least": {},
                                     "count": {"size": 5}, "string_at": {"size": 5, "place": 3},
                                     "place_of": {"string": "aab"}, "first": {}, "is_endless": {}}),
    ("commuting", "Exchanges"): (BC, {"pairs": {}}),
    ("turns", "Turns"): (TURNS, {"letters": {}, "turn": {"signed": "aB"}, "graph": {}}),
    ("turns", "Net"): (Net(LOT), {"ties": {}, "leads": {"signed": "ab"}, "rank": {}}),
}


class WholeTest(Case):
    def check_call(self, action, arguments, note):
        """By position and by name, again and again: told is the same, and what was passed stays as it was."""
        ahead = copy.deepcopy(arguments)
        expected = action(**arguments)
        turned = dict(reversed(list(arguments.items())))
        for told in (action(*arguments.values()), action(**turned), action(**arguments)):
            self.assertIs(type(expected), type(told), note)
            self.assertEqual(expected, told, note)
        if note != ("desk", "tried"):
            self.assertEqual(ahead, arguments, note)
        self.assertTrue(isinstance(expected, bool) or is_plain(expected), note)
        # Dicts that are told have sorted keys: words as lists of words are.
        if isinstance(expected, dict):
            self.assertEqual(sorted(expected, key=lambda word: (len(word), word)), list(expected), note)
        self.tells_anew(lambda: action(**arguments))

    def test_functions(self):
        self.assertEqual({(file, name) for file, names in FUNCTIONS.items() for name in names}, set(GOOD))
        for (file, name), arguments in GOOD.items():
            action = getattr(importlib.import_module("walksback." + file), name)
            listed = FUNCTIONS[file][name].replace("=None", "").replace("=24", "")
            self.assertEqual("(" + ", ".join(arguments) + ")", listed)
            self.check_call(action, arguments, (file, name))

    def test_methods(self):
        for (file, name), (made, methods) in OBJECTS.items():
            listed = {method for method in CLASSES[file, name] if not method.startswith("_")}
            self.assertEqual(listed, set(methods), name)
            ahead = copy.deepcopy(made)
            for method, arguments in methods.items():
                self.check_call(getattr(made, method), arguments, (file, name, method))
            self.assertEqual(ahead, made)
            self.assertEqual(made, made)

    def test_tuples_are_accepted_where_lists_are_asked_for(self):
        for (file, name), arguments in GOOD.items():
            action = getattr(importlib.import_module("walksback." + file), name)
            turned = {key: as_tuples(value) for key, value in arguments.items()}
            self.assertEqual(action(**arguments), action(**turned), (file, name))

    def test_equal_only_to_values_of_the_same_class(self):
        some = [made for made, _ in OBJECTS.values()]
        for one in some:
            for other in some + [None, 0, "", [], {}, (), repr(one)]:
                self.is_bool(one is other, one == other)
                self.is_bool(one is not other, one != other)

    def test_operators_tell_the_same_again(self):
        for action in (lambda: LOT | LESS, lambda: LOT & LESS, lambda: LOT + "z", lambda: LOT - "b", lambda: ~GRAPH,
                       lambda: GRAPH + (2, "c", 2, 1), lambda: (2, "c", 2, 1) + GRAPH, lambda: GRAPH - (2, "b", 2, 0),
                       lambda: ~EVEN, lambda: EVEN & ENDS, lambda: EVEN | ENDS, lambda: EVEN - ENDS,
                       lambda: Ratio(1, 2) + 1, lambda: 1 - Ratio(1, 2), lambda: -Ratio(1, 2)):
            self.tells_anew(action)
        self.assertEqual([Lot(["ab", "b", "bc"]), Machine("ab", [[1, 0], [0, 1]], [0])], [LOT, EVEN])


def as_tuples(value):
    """The value with tuples in place of all lists."""
    if isinstance(value, (list, tuple)):
        return tuple(as_tuples(part) for part in value)
    if isinstance(value, dict):
        return {key: as_tuples(part) for key, part in value.items()}
    return value


if __name__ == "__main__":
    unittest.main()
