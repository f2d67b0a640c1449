"""The interface as it is listed: files, names, parameters and default values."""

import importlib
import inspect
import unittest

FUNCTIONS = {
    "basics": {
        "is_integer": "(value)", "is_count": "(value)", "is_letter": "(value)", "is_word": "(value)",
        "is_question": "(value)", "in_sequence": "(words)", "backwards": "(word)",
    },
    "places": {
        "found_at": "(question, word)", "bridges": "(lot, question)", "bridges_at": "(lot, question, place)",
        "classes": "(lot, question)", "joined_to": "(lot, question, place)",
        "are_joined": "(lot, question, place, second)", "forth_from": "(lot, question, place)",
        "forth_to": "(lot, question, place)", "crossing": "(lot, question, places)",
    },
    "answers": {
        "pairs": "(graph, word)", "counts": "(graph, word)", "costs": "(graph, word)",
        "answer": "(graph, word, telling)", "kept": "(graph, lot, telling)", "many_walks": "(graph, word)",
        "walk": "(graph, word, begin, end)", "cheapest_walk": "(graph, word, begin, end)",
        "is_walk": "(graph, word, value)",
    },
    "tables": {
        "is_relation": "(nodes, value)", "is_matrix": "(nodes, value)", "is_cost_table": "(nodes, value)",
        "is_wide": "(nodes, value)", "product": "(nodes, one, other)", "back": "(nodes, one, over)",
        "is_within": "(nodes, one, other)", "count_product": "(nodes, one, other)",
        "cost_product": "(nodes, one, other)", "cost_back": "(nodes, one, over)",
        "pairs_in": "(nodes, telling, table)",
    },
    "settled": {
        "is_settled": "(lot, question)", "steps_at": "(lot, question, place)", "plan": "(lot, question)",
        "is_plan": "(lot, question, value)", "distances": "(lot, question)", "cut": "(lot, question)",
        "greatest_cut": "(lot, question)", "cut_count": "(lot, question)", "is_cut": "(lot, question, value)",
    },
}

# Each method that is listed stands in the body of the class itself.
CLASSES = {
    ("lots", "Lot"): {
        "__init__": "(self, words=())", "words": "(self)", "letters": "(self)", "longest": "(self)",
        "shortest": "(self)", "renamed": "(self, names)", "backwards": "(self)", "is_within": "(self, other)",
        "__len__": None, "__contains__": None, "__iter__": None, "__eq__": None, "__repr__": None, "__add__": None,
        "__sub__": None, "__or__": None, "__and__": None,
    },
    ("graphs", "Graph"): {
        "__init__": "(self, nodes, ties=())", "ties": "(self)", "letters": "(self)", "at": "(self, node, letter)",
        "renumbered": "(self, order)", "beside": "(self, other)", "__len__": None, "__contains__": None,
        "__iter__": None, "__eq__": None, "__repr__": None, "__add__": None, "__radd__": None, "__sub__": None,
        "__invert__": None,
    },
}


class InterfaceTest(unittest.TestCase):
    def test_functions(self):
        for file, functions in FUNCTIONS.items():
            module = importlib.import_module("walksback." + file)
            for name, parameters in functions.items():
                function = getattr(module, name)
                self.assertEqual(parameters, str(inspect.signature(function)), name)
                self.assertEqual(module.__name__, function.__module__, name)

    def test_classes(self):
        for (file, name), methods in CLASSES.items():
            module = importlib.import_module("walksback." + file)
            made = getattr(module, name)
            self.assertEqual(module.__name__, made.__module__)
            for method, parameters in methods.items():
                self.assertIn(method, vars(made))
                if parameters:
                    self.assertEqual(parameters, str(inspect.signature(vars(made)[method])), method)

    def test_nodes_is_a_property(self):
        from walksback.graphs import Graph
        self.assertIsInstance(vars(Graph)["nodes"], property)


if __name__ == "__main__":
    unittest.main()
