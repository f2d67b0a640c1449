"""The interface as it is listed: files, names, parameters and default values."""

import importlib
import inspect
import unittest

FUNCTIONS = {
    "basics": {
        "is_integer": "(value)", "is_count": "(value)", "is_letter": "(value)", "is_word": "(value)",
        "is_question": "(value)", "in_sequence": "(words)", "backwards": "(word)",
    },
    "places": {
        "found_at": "(question, word)", "bridges": "(lot, question)", "bridges_at": "(lot, question, place)",
        "classes": "(lot, question)", "joined_to": "(lot, question, place)",
        "are_joined": "(lot, question, place, second)", "forth_from": "(lot, question, place)",
        "forth_to": "(lot, question, place)", "crossing": "(lot, question, places)",
    },
    "answers": {
        "pairs": "(graph, word)", "counts": "(graph, word)", "costs": "(graph, word)",
        "answer": "(graph, word, telling)", "kept": "(graph, lot, telling)", "many_walks": "(graph, word)",
        "walk": "(graph, word, begin, end)", "cheapest_walk": "(graph, word, begin, end)",
        "is_walk": "(graph, word, value)",
    },
    "tables": {
        "is_relation": "(nodes, value)", "is_matrix": "(nodes, value)", "is_cost_table": "(nodes, value)",
        "is_wide": "(nodes, value)", "product": "(nodes, one, other)", "back": "(nodes, one, over)",
        "is_within": "(nodes, one, other)", "count_product": "(nodes, one, other)",
        "cost_product": "(nodes, one, other)", "cost_back": "(nodes, one, over)",
        "pairs_in": "(nodes, telling, table)",
    },
    "settled": {
        "is_settled": "(lot, question)", "steps_at": "(lot, question, place)", "plan": "(lot, question)",
        "is_plan": "(lot, question, value)", "distances": "(lot, question)", "cut": "(lot, question)",
        "greatest_cut": "(lot, question)", "cut_count": "(lot, question)", "is_cut": "(lot, question, value)",
    },
    "twins": {
        "twins": "(lot, question, cut=None)", "is_parting": "(lot, question, value, telling)",
        "first_apart": "(one, other, word, telling)", "unlike_words": "(lot, one, other, telling)",
    },
    "growing": {
        "does_grow": "(lot, question)", "chain": "(lot, question)", "is_chain": "(lot, question, value)",
        "chain_count": "(lot, question)", "shrinking": "(lot, question)", "is_shrinking": "(lot, question, value)",
    },
    "plans": {
        "how_many": "(lot, question, steps)", "plan_at": "(lot, question, number)",
        "cheapest_plan": "(lot, question, fares)", "fewest_backs": "(lot, question)", "ranks": "(lot, question)",
        "are_ranks": "(lot, question, number, value)",
    },
    "work": {
        "tables": "(lot, question, plan, nodes, kept)", "told": "(lot, question, nodes, kept, plan=None)",
        "told_from": "(lot, question, nodes, kept, node, plan=None)",
        "parted": "(lot, question, plan, other, nodes, kept)", "reason": "(lot, question, plan, nodes, kept, pair)",
        "denial": "(lot, question, plan, nodes, kept, pair)",
        "is_reason": "(lot, question, plan, nodes, kept, pair, value)",
        "is_denial": "(lot, question, plan, nodes, kept, pair, value)",
    },
    "atleast": {
        "sure": "(lot, question, nodes, kept)", "chain_of": "(lot, question, nodes, kept, pair)",
        "is_chain_of": "(lot, question, nodes, kept, pair, value)", "made": "(lot, nodes, kept)",
    },
    "fractions": {
        "is_fraction": "(value)", "solution": "(rows, right)", "bar": "(rows, right)", "rank": "(rows)",
    },
    "counting": {
        "count_paper": "(lot, question, kept, plan=None)",
        "is_count_paper": "(lot, question, kept, value, plan=None)", "freedom": "(lot, question, kept, plan=None)",
        "told_many": "(lot, question, kept, plan=None)", "told_many_from": "(lot, question, kept, node, plan=None)",
    },
    "cheap": {
        "step_tables": "(lot, question, kept, plan=None)", "told_cheap": "(lot, question, kept, plan=None)",
        "told_cheap_from": "(lot, question, kept, node, plan=None)",
        "is_step_tables": "(lot, question, kept, value, plan=None)",
    },
    "base": {
        "base": "(lot)", "needless": "(lot)", "needed": "(lot, question)", "further": "(lot, question, most=24)",
        "is_further": "(lot, question, value)",
    },
    "choosing": {
        "least_price": "(lot, prices, questions)", "cheapest": "(lot, prices, questions)",
        "least_choices": "(lot, prices, questions)", "is_choice": "(lot, prices, questions, value)",
        "tree": "(lot, prices, questions, number)", "is_tree": "(lot, prices, questions, number, value)",
    },
    "allwords": {
        "machine_of": "(lot, letters)", "how_many": "(lot, letters, size)", "first_unsettled": "(lot, letters)",
        "last_unsettled": "(lot, letters)", "family": "(lot, letters)", "is_family": "(lot, letters, value)",
    },
    "likelots": {
        "covers": "(one, other)", "say_the_same": "(one, other)", "parting_word": "(one, other)",
        "settled_by_both": "(one, other, letters)", "settled_by_one": "(one, other, letters)",
    },
    "commuting": {
        "form": "(exchanges, word)", "are_like": "(exchanges, one, other)", "does_keep": "(exchanges, graph)",
        "beginnings": "(exchanges, question)", "rest": "(exchanges, question, beginning)",
        "how_many_like": "(exchanges, question)", "leaps": "(exchanges, lot, question)",
        "does_settle": "(exchanges, lot, question)", "way": "(exchanges, lot, question)",
        "is_way": "(exchanges, lot, question, value)", "rift": "(exchanges, lot, question)",
        "is_rift": "(exchanges, lot, question, value)", "apart": "(exchanges, lot, question, rift=None)",
        "told_under": "(exchanges, lot, question, nodes, kept)",
    },
    "turns": {
        "reduced": "(signed)", "gone_back": "(signed)", "does_settle_turn": "(lot, signed)", "folds": "(lot, signed)",
        "are_folds": "(lot, signed, value)", "turn_twins": "(lot, signed)", "are_turn_twins": "(lot, signed, value)",
        "told_turn": "(lot, signed, kept)",
    },
    "texts": {
        "lot_text": "(lot)", "graph_text": "(graph)", "kept_text": "(lot, nodes, kept)", "read_lot": "(text)",
        "read_graph": "(text)", "read_kept": "(lot, nodes, text)",
    },
    "claims": {
        "is_claim": "(value)", "is_true": "(claim)", "paper_of": "(claim)", "is_paper": "(claim, value)",
    },
    "desk": {"tried": "(desk, action)"},
}

# Each method that is listed stands in the body of the class itself.
CLASSES = {
    ("lots", "Lot"): {
        "__init__": "(self, words=())", "words": "(self)", "letters": "(self)", "longest": "(self)",
        "shortest": "(self)", "renamed": "(self, names)", "backwards": "(self)", "is_within": "(self, other)",
        "__len__": None, "__contains__": None, "__iter__": None, "__eq__": None, "__repr__": None, "__add__": None,
        "__sub__": None, "__or__": None, "__and__": None,
    },
    ("graphs", "Graph"): {
        "__init__": "(self, nodes, ties=())", "ties": "(self)", "letters": "(self)", "at": "(self, node, letter)",
        "renumbered": "(self, order)", "beside": "(self, other)", "__len__": None, "__contains__": None,
        "__iter__": None, "__eq__": None, "__repr__": None, "__add__": None, "__radd__": None, "__sub__": None,
        "__invert__": None,
    },
    ("fractions", "Ratio"): {
        "__init__": "(self, above, below=1)", "pair": "(self)", "over": "(self, other)", "__add__": None,
        "__radd__": None, "__sub__": None, "__rsub__": None, "__mul__": None, "__rmul__": None, "__neg__": None,
        "__eq__": None, "__repr__": None,
    },
    ("machines", "Machine"): {
        "__init__": "(self, letters, rows, letting)", "letters": "(self)", "rows": "(self)", "letting": "(self)",
        "goes": "(self, string)", "least": "(self)", "count": "(self, size)", "string_at": "(self, size, place)",
        "place_of": "(self, string)", "first": "(self)", "is_endless": "(self)", "__len__": None, "__contains__": None,
        "__eq__": None, "__repr__": None, "__invert__": None, "__and__": None, "__or__": None, "__sub__": None,
    },
    ("commuting", "Exchanges"): {
        "__init__": "(self, pairs=())", "pairs": "(self)", "__contains__": None, "__len__": None, "__eq__": None,
        "__repr__": None,
    },
    ("turns", "Turns"): {
        "__init__": "(self, nodes, maps)", "letters": "(self)", "turn": "(self, signed)", "graph": "(self)",
        "__eq__": None,
    },
    ("turns", "Net"): {
        "__init__": "(self, lot)", "__len__": None, "ties": "(self)", "leads": "(self, signed)", "rank": "(self)",
        "__eq__": None,
    },
    ("desk", "Desk"): {
        "__init__": "(self)", "names": "(self)", "__len__": None, "__contains__": None, "__getitem__": None,
        "do": "(self, command)", "do_all": "(self, *commands)", "log": "(self)",
    },
    ("desk", "Trial"): {"__init__": "(self, desk)", "__enter__": None, "__exit__": None},
}


class InterfaceTest(unittest.TestCase):
    def test_functions(self):
        for file, functions in FUNCTIONS.items():
            module = importlib.import_module("walksback." + file)
            for name, parameters in functions.items():
                function = getattr(module, name)
                self.assertEqual(parameters, str(inspect.signature(function)), name)
                self.assertEqual(module.__name__, function.__module__, name)

    def test_classes(self):
        for (file, name), methods in CLASSES.items():
            module = importlib.import_module("walksback." + file)
            made = getattr(module, name)
            self.assertEqual(module.__name__, made.__module__)
            for method, parameters in methods.items():
                self.assertIn(method, vars(made))
                if parameters:
                    self.assertEqual(parameters, str(inspect.signature(vars(made)[method])), method)

    def test_properties_and_class_methods(self):
        from walksback.fractions import Ratio
        from walksback.graphs import Graph
        from walksback.turns import Turns
        self.assertIsInstance(vars(Graph)["nodes"], property)
        self.assertIsInstance(vars(Turns)["nodes"], property)
        self.assertIsInstance(vars(Ratio)["above"], property)
        self.assertIsInstance(vars(Ratio)["below"], property)
        self.assertIsInstance(vars(Ratio)["of"], classmethod)
        self.assertEqual("(value)", str(inspect.signature(Ratio.of)))


if __name__ == "__main__":
    unittest.main()
