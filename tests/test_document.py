"""The examples of the document, word by word."""

import doctest
import pathlib
import unittest

STAGE_1 = """
>>> from walksback.lots import Lot
>>> from walksback.places import bridges, classes, crossing, forth_from, found_at
>>> lot = Lot(["ab", "bc", "b"])
>>> [lot, "ab" in lot, lot.longest(), (lot - "b").words(), lot & Lot(["b", "c"]), lot.backwards()]
[Lot(['b', 'ab', 'bc']), True, 2, ['ab', 'bc'], Lot(['b']), Lot(['b', 'ba', 'cb'])]
>>> [bridges(lot, "abc"), classes(lot, "abc"), classes(lot - "b", "abc"), forth_from(lot, "abc", 1)]
[[(0, 2, 'ab'), (1, 2, 'b'), (1, 3, 'bc')], [[0, 1, 2, 3]], [[0, 2], [1, 3]], [1, 2, 3]]
>>> [found_at("aaaa", "aa"), crossing(lot, "abc", [0, 1])]
[[0, 1, 2], [(0, 2, 'ab'), (1, 2, 'b'), (1, 3, 'bc')]]
"""

STAGE_2 = """
>>> from walksback.answers import costs, counts, cheapest_walk, pairs, walk
>>> from walksback.graphs import Graph
>>> from walksback.tables import back, cost_back
>>> graph = Graph(3, [(0, "a", 1, 7), (0, "a", 2, 5), (1, "b", 2, 1), (2, "b", 2, 0)])
>>> [pairs(graph, "ab"), counts(graph, "ab")[0], costs(graph, "ab")[0], walk(graph, "ab", 0, 2), \
cheapest_walk(graph, "ab", 0, 2)]
[[(0, 2)], [0, 0, 2], [None, None, 5], [0, 1, 2], [0, 2, 2]]
>>> back(3, pairs(graph, "ab"), pairs(graph, "b"))
[(0, 0), (0, 1), (0, 2), (1, 0), (2, 0)]
>>> cost_back(3, costs(graph, "ab"), costs(graph, "b"))
[['below', 4, 5], ['below', None, None], ['below', None, None]]
"""

STAGE_3 = """
>>> from walksback.answers import pairs
>>> from walksback.growing import chain, does_grow
>>> from walksback.lots import Lot
>>> from walksback.settled import cut, plan
>>> from walksback.twins import is_parting, twins
>>> lot = Lot(["ab", "b", "bc"])
>>> [plan(lot, "abc"), does_grow(lot, "abc"), chain(lot, "abbc"), cut(lot, "abc"), cut(lot - "b", "abc")]
[[(0, 'ab', 2), (2, 'b', 1), (1, 'bc', 3)], False, ['ab', 'bc'], None, [0, 2]]
>>> plain, crossed = twins(lot - "b", "abc")
>>> [pairs(plain, "ab") == pairs(crossed, "ab"), pairs(plain, "abc"), pairs(crossed, "abc")]
[True, [(0, 6), (1, 7)], [(0, 7), (1, 6)]]
>>> [is_parting(lot - "b", "abc", (plain, crossed), "many"), is_parting(lot, "abc", (plain, crossed), "many")]
[True, False]
"""

STAGE_4 = """
>>> from walksback.lots import Lot
>>> from walksback.plans import cheapest_plan, fewest_backs, how_many, ranks
>>> from walksback.work import tables, told
>>> lot, kept = Lot(["ab", "b", "bc"]), {"ab": [(0, 1)], "b": [(2, 1)], "bc": [(2, 0)]}
>>> plan = cheapest_plan(lot, "abc", (1, 3))
>>> [plan, fewest_backs(lot, "abc"), how_many(lot, "abc", 5), ranks(lot, "abc")]
[[(0, 'ab', 2), (2, 'b', 1), (1, 'bc', 3)], 1, 3, [0, 1, 0, 1]]
>>> [tables(lot, "abc", plan, 3, kept)[2], told(lot, "abc", 3, kept)]
[[(0, 0), (0, 1), (0, 2), (1, 0), (1, 1), (2, 0), (2, 1)], [(0, 0)]]
"""

STAGE_5 = """
>>> from walksback.answers import kept
>>> from walksback.cheap import step_tables, told_cheap_from
>>> from walksback.counting import freedom, told_many_from
>>> from walksback.fractions import Ratio, bar, solution
>>> from walksback.graphs import Graph
>>> from walksback.lots import Lot
>>> lot = Lot(["ab", "b", "bc"])
>>> graph = Graph(4, [(0, "a", 1, 2), (1, "b", 2, 3), (2, "c", 3, 4)])
>>> [told_many_from(lot, "abc", kept(graph, lot, "many"), 0), freedom(lot, "abc", kept(graph, lot, "many"))]
[[0, 0, 0, 1], [0, 0, 3, 0]]
>>> costs = kept(graph, lot, "cheap")
>>> [told_cheap_from(lot, "abc", costs, 0), step_tables(lot, "abc", costs)[2][0]]
[[None, None, None, 9], ['below', 2, 'below', 'below']]
>>> [solution([[2, 0], [0, 3]], [1, 1]), bar([[1, 1]], [1, 2]) is None, (1 - Ratio(1, 2)).over(3)]
[[(1, 2), (1, 3)], False, Ratio(1, 6)]
"""

STAGE_6 = """
>>> from walksback.base import base, further, needed, needless
>>> from walksback.choosing import cheapest, is_choice, is_tree, least_choices, least_price
>>> from walksback.lots import Lot
>>> some = Lot(["a", "b", "ab", "abc"])
>>> [base(some).words(), needless(some), needed(some, "abc"), further(Lot(["ab", "bc"]), "abc")]
[['a', 'b', 'abc'], ['ab'], ['abc'], ['a', 'b', 'c', 'abc']]
>>> prices = {"a": 3, "b": 1, "c": 4, "bc": 2, "abc": 5}
>>> kept = Lot(["ab"])
>>> [least_price(kept, prices, ["abc"]), cheapest(kept, prices, ["abc"]).words()]
[3, ['b', 'bc']]
>>> [choice.words() for choice in least_choices(kept, prices, ["abc"])]
[['c'], ['abc'], ['a', 'bc'], ['b', 'bc']]
>>> is_tree(kept, prices, ["abc"], 2, (0, [0, 2], [("b", (0, [0, 1, 2], []))]))
True
"""

STAGE_7 = """
>>> from walksback.allwords import first_unsettled, how_many, last_unsettled, machine_of
>>> from walksback.likelots import covers, parting_word
>>> from walksback.lots import Lot
>>> long = Lot(["aaa", "aaaa"])
>>> [machine_of(long, "a"), first_unsettled(long, "a"), last_unsettled(long, "a"), \
how_many(Lot(["ab", "b", "bc"]), "abc", 3)]
[Machine('a', [[1], [2], [3], [3]], [0, 3]), 'a', 2, 6]
>>> [covers(Lot(["aa", "aaa"]), long), covers(long, Lot(["aa", "aaa"])), parting_word(Lot(["aa", "aaa"]), long)]
[True, False, 'aa']
"""

STAGE_8 = """
>>> from walksback.commuting import Exchanges, beginnings, form, way
>>> from walksback.lots import Lot
>>> from walksback.turns import Net, does_settle_turn, folds
>>> [form(Exchanges([("c", "b")]), "acb"), beginnings(Exchanges([("b", "c")]), "abc")]
['abc', ['', 'a', 'ab', 'ac', 'abc']]
>>> way(Exchanges([("b", "c")]), Lot(["b", "ac"]), "abc")
[('', 'ac', 'ac'), ('ac', 'b', 'abc')]
>>> [does_settle_turn(Lot(["ab", "b"]), "a"), folds(Lot(["ab", "b"]), "a"), Net(Lot(["aa", "aaa"])).ties()]
[True, [('B', 0, 1)], [(0, 'a', 0)]]
"""

STAGE_9 = r"""
>>> from walksback.claims import is_paper
>>> from walksback.desk import Desk, tried
>>> from walksback.lots import Lot
>>> from walksback.texts import lot_text
>>> desk = Desk()
>>> desk.do_all("lot some ab bc", "ask some abc", "cut some abc", "further some abc", "keep some b", "plan some abc")
['done', 'no', '0 2', 'a b c abc', '3', '0 ab 2 b 1 bc 3']
>>> [lot_text(desk["some"]), tried(desk, lambda held: held.do("undo")), desk.do("base some"),
... is_paper(("cut", Lot([]), "a"), [0])]
['word b\nword ab\nword bc\n', 'done', 'b ab bc', True]
"""

# The example of the overview: by pairs, what a plan tells of each graph.
OVERVIEW = """
>>> from walksback.answers import kept, pairs
>>> from walksback.graphs import Graph
>>> from walksback.lots import Lot
>>> from walksback.settled import is_settled, plan
>>> from walksback.tables import back, product
>>> lot = Lot(["aaa", "aaaa"])
>>> plan(lot, "aaaaa")
[(0, 'aaaa', 4), (4, 'aaa', 1), (1, 'aaaa', 5)]
>>> is_settled(Lot(["ab", "bc"]), "abc")
False
>>> graph = Graph(4, [(0, "a", 1, 0), (1, "a", 2, 0), (2, "a", 0, 0), (2, "a", 3, 0), (3, "a", 3, 0)])
>>> table = kept(graph, lot, "whether")
>>> product(4, back(4, table["aaaa"], table["aaa"]), table["aaaa"]) == pairs(graph, "aaaaa")
True
"""


class DocumentTest(unittest.TestCase):
    def run_examples(self, text, number):
        test = doctest.DocTestParser().get_doctest(text, {}, "document", None, 0)
        self.assertEqual(number, len(test.examples))
        told = []
        result = doctest.DocTestRunner(verbose=False).run(test, out=told.append)
        self.assertEqual(0, result.failed, "".join(told))

    def test_stage_1(self):
        self.run_examples(STAGE_1, 6)

    def test_stage_2(self):
        self.run_examples(STAGE_2, 7)

    def test_stage_3(self):
        self.run_examples(STAGE_3, 10)

    def test_stage_4(self):
        self.run_examples(STAGE_4, 7)

    def test_stage_5(self):
        self.run_examples(STAGE_5, 12)

    def test_stage_6(self):
        self.run_examples(STAGE_6, 10)

    def test_stage_7(self):
        self.run_examples(STAGE_7, 6)

    def test_stage_8(self):
        self.run_examples(STAGE_8, 6)

    def test_stage_9(self):
        self.run_examples(STAGE_9, 7)

    def test_overview(self):
        self.run_examples(OVERVIEW, 11)

    def test_the_readme(self):
        readme = pathlib.Path(__file__).resolve().parent.parent / "README.md"
        self.run_examples(readme.read_text(encoding="utf-8").replace("```", ""), 43)


if __name__ == "__main__":
    unittest.main()
