"""walksback.claims: the fifteen claims, whether they are true, and their papers."""

import copy
import itertools
import unittest
from unittest.mock import ANY

from support import STRANGE, Case, seeded, some_relation, some_word, some_words
from test_base import joined
from walksback.allwords import is_family, last_unsettled
from walksback.answers import pairs
from walksback.atleast import is_chain_of, made, sure
from walksback.choosing import is_choice, is_tree, least_price
from walksback.claims import is_claim, is_paper, is_true, paper_of
from walksback.errors import InvalidClaim, TooMany
from walksback.graphs import Graph
from walksback.growing import does_grow, is_chain, is_shrinking
from walksback.likelots import covers
from walksback.lots import Lot
from walksback.plans import are_ranks, fewest_backs
from walksback.settled import is_cut, is_plan, is_settled
from walksback.turns import Turns, are_folds, are_turn_twins, does_settle_turn
from walksback.twins import is_parting

LOT = Lot(["ab", "b", "bc"])
LESS = Lot(["ab", "bc"])
FIVE = Lot(["abcab"])
PRICES = {"a": 3, "b": 1, "c": 4, "bc": 2, "abc": 5}
KEPT = {"ab": [(0, 1)], "b": [], "bc": [(1, 2)]}
# A true claim of each word, and a false one.
TRUE = {
    "settled": ("settled", LOT, "abc"), "cut": ("cut", LESS, "abc"), "parted": ("parted", LESS, "abc", "many"),
    "grows": ("grows", LOT, "abbc"), "shrinks": ("shrinks", LOT, "abc"), "backs": ("backs", LOT, "abc", 1),
    "bought": ("bought", Lot(["ab"]), PRICES, ["abc"], 3), "dear": ("dear", Lot(["ab"]), PRICES, ["abc"], 2),
    "sure": ("sure", LOT, "abbc", 3, KEPT, (0, 2)), "open": ("open", LOT, "abbc", 3, KEPT, (0, 1)),
    "covers": ("covers", LOT, Lot(["abc", "b"])), "lacks": ("lacks", LESS, Lot(["ab", "abc"])),
    "endless": ("endless", LOT, "abc"), "turned": ("turned", LOT, "aC"), "unturned": ("unturned", LESS, "a"),
}
FALSE = {
    "settled": ("settled", LESS, "abc"), "cut": ("cut", LOT, "abc"), "parted": ("parted", LOT, "abc", "many"),
    "grows": ("grows", LOT, "abc"), "shrinks": ("shrinks", LOT, "abbc"), "backs": ("backs", LOT, "abc", 2),
    "bought": ("bought", Lot(["ab"]), PRICES, ["abc"], 2), "dear": ("dear", Lot(["ab"]), PRICES, ["abc"], 3),
    "sure": ("sure", LOT, "abbc", 3, KEPT, (0, 1)), "open": ("open", LOT, "abbc", 3, KEPT, (0, 2)),
    "covers": ("covers", LESS, Lot(["ab", "abc"])), "lacks": ("lacks", LOT, Lot(["abc", "b"])),
    "endless": ("endless", Lot(["aaa", "aaaa"]), "a"), "turned": ("turned", LESS, "a"),
    "unturned": ("unturned", LOT, "aC"),
}
# What the checks of their own stages say of a paper.
CHECKS = {
    "settled": is_plan, "cut": is_cut, "parted": lambda lot, question, telling, value:
    is_parting(lot, question, value, telling), "grows": is_chain, "shrinks": is_shrinking, "backs": are_ranks,
    "dear": is_tree, "sure": is_chain_of, "endless": is_family, "turned": are_folds, "unturned": are_turn_twins,
}


def wrong_claims():
    """Values that are like claims, but for one part."""
    for claim in TRUE.values():
        yield list(claim)
        yield claim[:-1]
        yield claim[1:]
        yield (*claim, None)
        yield (claim,)
        for name in STRANGE + ("Settled", "settle", " cut", claim[0] + " ", b"cut", ANY):
            yield (name, *claim[1:])
        for lot in STRANGE + ([], ["ab"], "ab", LOT.words(), ANY):
            yield (claim[0], lot, *claim[2:])
    for name in ("settled", "cut", "grows", "shrinks"):
        for question in STRANGE + ("a" * 25, ["a"], 0, ANY, LOT):
            yield (name, LOT, question)
            yield ("backs", LOT, question, 1)
            yield ("parted", LESS, question, "many")
    for telling in STRANGE + ("Many", "all", ["many"], ANY, 0):
        yield ("parted", LOT, "abc", telling)
    for number in STRANGE + ("1", [1], ANY):
        if not (isinstance(number, int) and not isinstance(number, bool) and number >= 0):
            yield ("backs", LOT, "abc", number)
            yield ("bought", LOT, PRICES, ["abc"], number)
            yield ("dear", LOT, PRICES, ["abc"], number)
    for name in ("bought", "dear"):
        for prices in ({"a": -1}, {"a": True}, {"A": 1}, [("a", 1)], None, {letter: 1 for letter in "abcdefghijk"},
                       {"a" * 13: 1}, {"a": None}, ANY):
            yield (name, LOT, prices, ["abc"], 1)
        for questions in (None, [], "abc", ["abc", "abc"], ["a" * 25], ["a", None], list("abcde"), {"abc": 1}, ANY):
            yield (name, LOT, PRICES, questions, 1)
    for name in ("sure", "open"):
        yield (name, LOT, "a" * 25, 3, KEPT, (0, 2))
        for nodes in STRANGE + (0, 1, 2, 121, "3", ANY):
            yield (name, LOT, "abbc", nodes, KEPT, (0, 2))
            if nodes not in (1, 2) or isinstance(nodes, bool):
                yield (name, Lot(), "a", nodes, {}, (0, 0))
        for kept in (None, {}, {"ab": []}, {**KEPT, "c": []}, {**KEPT, "b": [(0, 3)]}, {**KEPT, "b": None}, ANY,
                     {**KEPT, "ab": [(1, 0), (0, 1)]}):
            yield (name, LOT, "abbc", 3, kept, (0, 2))
        for pair in STRANGE + ([0, 2], (0, 3), (0,), (0, 1, 2), (-1, 0), (True, 0), (0, None), "02", ANY, (0, ANY)):
            yield (name, LOT, "abbc", 3, KEPT, pair)
    for letters in STRANGE + ("abcd", "ba", "aa", ["a"], ANY, 0):
        yield ("endless", LOT, letters)
    yield ("endless", FIVE, "abc")
    yield ("endless", FIVE, "z")
    for name in ("covers", "lacks"):
        for other in STRANGE + (["ab"], "ab", ANY):
            yield (name, LOT, other)
    for name in ("turned", "unturned"):
        for signed in STRANGE + ("a" * 13, "a1", ["a"], ANY, 0):
            if signed not in ("A", "aB", "Below") or not isinstance(signed, str):
                yield (name, LOT, signed)


def strange_papers():
    """Values that are papers of none of the claims that are tried."""
    graph = Graph(3, [(0, "a", 1, 0)])
    turns = Turns(2, {"a": [0, 1]})
    return STRANGE + (ANY, [ANY], (ANY, ANY), (ANY, ANY, ANY), (graph, graph), [graph, graph], turns, (turns, turns),
                      0, 1, graph, Lot(["z"]), [0, 1], [[0, 1]], "abc", (0, [0], []), ("", "", ""), {"abc": []},
                      ("abc", [0, 1, 2, 3]), [("a", 0, 9)], [(0, "a", 1)], [("", "a", "a")], {LOT.letters(): LOT})


class ClaimTest(Case):
    def test_claims(self):
        self.assertEqual(15, len(TRUE))
        for claim in (*TRUE.values(), *FALSE.values()):
            self.is_bool(True, is_claim(claim), claim)
        self.is_bool(True, is_claim(value=TRUE["cut"]))

    def test_at_the_limits(self):
        for claim in (
                ("settled", Lot(), "a"), ("cut", Lot(["a"]), "a" * 24), ("parted", Lot(), "a", "cheap"),
                ("parted", Lot(), "a", "whether"), ("backs", LOT, "abc", 0), ("backs", LOT, "abc", 10 ** 25),
                ("bought", LOT, {}, ("abc",), 0), ("dear", LOT, {letter: 1 for letter in "abcdefghij"}, ["abc"], 0),
                ("dear", LOT, PRICES, ["a", "b", "c", "d"], 10 ** 25), ("sure", Lot(), "a", 120, {}, (0, 119)),
                ("open", Lot(), "a", 1, {}, (0, 0)), ("covers", Lot(), Lot()), ("lacks", FIVE, FIVE),
                ("endless", Lot(["abcd"]), "z"), ("turned", LOT, "aB" * 6), ("unturned", Lot(), "Z"),
                ("sure", Lot(["a"]), "a", 2, {"a": ((0, 1),)}, (0, 1))):
            self.is_bool(True, is_claim(claim), claim)

    def test_values_that_are_no_claims(self):
        for value in STRANGE + (ANY, "cut", ("cut",), (), ("cut", LOT), {"cut": LOT}, 0, LOT, [("cut", LOT, "abc")]):
            self.refuses(value)
        for value in wrong_claims():
            self.refuses(value)

    def refuses(self, value):
        self.is_bool(False, is_claim(value), value)
        self.fails(InvalidClaim, {"value": value}, is_true, value)
        self.fails(InvalidClaim, {"value": value}, paper_of, value)
        self.fails(InvalidClaim, {"value": value}, is_paper, value, [0])

    def test_open_just_where_made_lets(self):
        # 120 nodes and one more; 1,000 ties and more.
        lot = Lot(["a", "aa"])
        full = {"a": [], "aa": [(0, at) for at in range(60)]}
        self.is_bool(True, is_claim(("open", lot, "a", 60, full, (0, 0))))
        more = {"a": [], "aa": [(0, at) for at in range(61)]}
        self.is_bool(False, is_claim(("open", lot, "a", 61, more, (0, 0))))
        self.is_bool(True, is_claim(("sure", lot, "a", 61, more, (0, 0))))
        self.fails(TooMany, {"what": "nodes"}, made, lot, 61, more)
        one = Lot(["a"])
        thousand = {"a": [(x, y) for x in range(40) for y in range(25)]}
        self.is_bool(True, is_claim(("open", one, "aa", 40, thousand, (0, 30))))
        thousand["a"].append((39, 25))
        self.is_bool(False, is_claim(("open", one, "aa", 40, thousand, (0, 30))))
        self.is_bool(True, is_claim(("sure", one, "aa", 40, thousand, (0, 30))))
        self.refuses(("open", one, "aa", 40, thousand, (0, 30)))

    def test_true_ones_and_false_ones(self):
        for name, claim in TRUE.items():
            self.is_bool(True, is_true(claim), name)
            paper = paper_of(claim)
            self.assertIsNotNone(paper, name)
            self.is_bool(True, is_paper(claim, paper), name)
            self.is_bool(False, is_paper(FALSE[name], paper), name)
            if name in CHECKS:
                self.is_bool(True, CHECKS[name](*claim[1:], paper))
        for name, claim in FALSE.items():
            self.is_bool(False, is_true(claim), name)
            self.assertIsNone(paper_of(claim), name)
        self.is_bool(True, is_true(claim=TRUE["cut"]))
        self.is_bool(True, is_paper(claim=TRUE["cut"], value=paper_of(claim=TRUE["cut"])))

    def test_papers_of_other_claims(self):
        papers = {name: paper_of(claim) for name, claim in TRUE.items()}
        for (name, claim), (other, paper) in itertools.product(TRUE.items(), papers.items()):
            if name == other:
                continue
            right = name in CHECKS and CHECKS[name](*claim[1:], paper)
            self.is_bool(right, is_paper(claim, paper), (name, other))

    def test_any_value(self):
        for name in TRUE:
            for value in strange_papers():
                self.is_bool(False, is_paper(FALSE[name], value), (name, value))
                if name in CHECKS:
                    self.is_bool(CHECKS[name](*TRUE[name][1:], value), is_paper(TRUE[name], value), (name, value))
                else:
                    self.is_bool(False, is_paper(TRUE[name], value), (name, value))

    def test_what_is_passed_and_what_is_told(self):
        for name, claim in TRUE.items():
            for action in (is_claim, is_true, paper_of):
                self.leaves((claim,), action)
            self.leaves((claim, copy.deepcopy(paper_of(claim))), is_paper)
            if name not in ("bought", "open", "parted", "shrinks", "unturned"):
                self.tells_anew(lambda: paper_of(claim))
            else:
                self.is_bool(True, is_paper(claim, paper_of(claim)))


class QuestionClaimTest(Case):
    def test_against_the_definitions(self):
        source = seeded(950)
        found = {}
        for turn in range(120):
            letters = "a" if turn % 3 == 0 else "ab"
            lot = Lot(some_words(source, letters, 4, 3))
            question = some_word(source, letters, 7)
            settled = joined(lot, question)
            number = source.randint(0, 3)
            backs = number == 0 or not settled or fewest_backs(lot, question) >= number
            telling = source.choice(("whether", "many", "cheap"))
            for claim, right in (
                    (("settled", lot, question), settled), (("cut", lot, question), not settled),
                    (("parted", lot, question, telling), not settled), (("backs", lot, question, number), backs),
                    (("grows", lot, question), does_grow(lot, question)),
                    (("shrinks", lot, question), not does_grow(lot, question))):
                found[claim[0], right] = found.get((claim[0], right), 0) + 1
                self.is_bool(right, is_true(claim))
                paper = paper_of(claim)
                self.is_bool(right, paper is not None)
                if right:
                    self.is_bool(True, is_paper(claim, paper))
                    self.is_bool(True, CHECKS[claim[0]](*claim[1:], paper))
        self.assertEqual(12, len(found))
        self.assertGreater(min(found.values()), 10)

    def test_bent_papers(self):
        steps = paper_of(TRUE["settled"])
        for value in (steps[:-1], steps[1:], steps[::-1], [*steps, steps[-1]], [list(step) for step in steps],
                      [(0, "ab", 2), (2, "b", 1), (1, "bc", True)]):
            self.is_bool(False, is_paper(TRUE["settled"], value), value)
        self.is_bool(True, is_paper(TRUE["settled"], tuple(steps)))
        self.is_bool(True, is_paper(TRUE["cut"], (0, 2)))
        for value in ([0], [0, 1, 2], [0, 2, 3], [2, 0], [0, 2, 2], [False, 2], [2]):
            self.is_bool(False, is_paper(TRUE["cut"], value), value)
        one, other = paper_of(TRUE["parted"])
        self.is_bool(True, is_paper(TRUE["parted"], (other, one)))
        for value in ([one, other], (one, one), (one,), (one, other, one), (one, other - other.ties()[0])):
            self.is_bool(False, is_paper(TRUE["parted"], value), value)
        one, other = paper_of(TRUE["shrinks"])
        for value in ((other, one), [one, other], (one, one), (other, other)):
            self.is_bool(is_shrinking(LOT, "abc", value), is_paper(TRUE["shrinks"], value), value)
        self.is_bool(True, is_paper(TRUE["grows"], ("ab", "bc")))
        for value in (["ab"], ["bc", "ab"], ["ab", "b", "c"], "abbc", [["ab", "bc"]]):
            self.is_bool(False, is_paper(TRUE["grows"], value), value)

    def test_parted_in_one_telling_alone(self):
        # As many pairs, but not as many walks: no parting by whether there is one.
        one = Graph(3, [(0, "a", 1, 0), (1, "b", 2, 0)])
        other = Graph(3, [(0, "a", 1, 0), (1, "b", 2, 4)])
        lot = Lot(["a"])
        self.is_bool(True, is_paper(("parted", lot, "ab", "cheap"), (one, other)))
        self.is_bool(False, is_paper(("parted", lot, "ab", "many"), (one, other)))
        self.is_bool(False, is_paper(("parted", lot, "ab", "whether"), (one, other)))

    def test_backs(self):
        self.is_bool(True, is_true(("backs", LOT, "abc", 0)))
        self.is_bool(True, is_paper(TRUE["backs"], [0, 1, 0, 1]))
        for value in ([0, 1, 0, 0], [0, 1, 0], [0, 1, 1, 1], [1, 1, 0, 1], [0, True, 0, 1], [0, 2, 0, 2],
                      [0, 1, 0, 1, 0]):
            self.is_bool(False, is_paper(TRUE["backs"], value), value)
        # Without any plan it is true for each number.
        for number in (0, 1, 10 ** 29):
            claim = ("backs", LESS, "abc", number)
            self.is_bool(True, is_true(claim))
            self.is_bool(True, is_paper(claim, paper_of(claim)))
            self.is_bool(True, is_paper(claim, [0, number, 0, number]))
            self.is_bool(False, is_paper(("backs", LESS, "abc", number + 1), [0, number, 0, number]))


class OtherClaimTest(Case):
    def test_prices(self):
        source = seeded(960)
        found = {}
        for turn in range(60):
            letters = "a" if turn % 3 == 0 else "ab"
            lot = Lot(some_words(source, letters, 2, 3))
            prices = {word: source.randint(0, 3) for word in some_words(source, letters, 4, 3)}
            questions = sorted({some_word(source, letters, 5) for _ in range(source.randint(1, 2))})
            number = source.randint(0, 5)
            least = least_price(lot, prices, questions)
            right = least is not None and least <= number
            found[right] = found.get(right, 0) + 1
            bought, dear = ("bought", lot, prices, questions, number), ("dear", lot, prices, questions, number)
            self.is_bool(right, is_true(bought))
            self.is_bool(not right, is_true(dear))
            for size in range(len(prices) + 1):
                for some in itertools.combinations(prices, size):
                    cheap = sum(prices[word] for word in some) <= number
                    self.is_bool(cheap and is_choice(lot, prices, questions, Lot(some)), is_paper(bought, Lot(some)))
            if right:
                self.is_bool(True, is_paper(bought, paper_of(bought)))
                self.assertIsNone(paper_of(dear))
            else:
                self.is_bool(True, is_paper(dear, paper_of(dear)))
                self.is_bool(True, is_tree(*dear[1:], paper_of(dear)))
                self.assertIsNone(paper_of(bought))
        self.assertGreater(min(found.values()), 10)

    def test_prices_bent(self):
        self.is_bool(True, is_paper(("bought", Lot(["ab"]), PRICES, ["abc"], 4), Lot(["c"])))
        for value in (Lot(["c"]), Lot(["b"]), Lot(), Lot(["b", "bc", "z"]), ["b", "bc"], {"b": 1, "bc": 2},
                      Lot(["a", "b", "bc"])):
            self.is_bool(False, is_paper(TRUE["bought"], value), value)
        self.is_bool(True, is_paper(TRUE["dear"], (0, [0, 2], [("b", (0, [0, 1, 2], []))])))
        self.is_bool(False, is_paper(TRUE["dear"], (0, [0, 2], [])))
        self.is_bool(False, is_paper(FALSE["dear"], (0, [0, 2], [("b", (0, [0, 1, 2], []))])))

    def test_pairs(self):
        source = seeded(970)
        found = {}
        for turn in range(60):
            lot = Lot(some_words(source, "ab", 3, 2))
            question = "".join(source.choice(lot.words() or ["a"]) for _ in range(source.randint(1, 3)))
            nodes = source.randint(1, 3)
            kept = {word: some_relation(source, nodes, 5) for word in lot}
            told = sure(lot, question, nodes, kept)
            for pair in itertools.product(range(nodes), repeat=2):
                right = pair in told
                found[right] = found.get(right, 0) + 1
                yes, no = ("sure", lot, question, nodes, kept, pair), ("open", lot, question, nodes, kept, pair)
                self.is_bool(right, is_true(yes))
                self.is_bool(not right, is_true(no))
                self.is_bool(right, paper_of(yes) is not None)
                self.is_bool(not right, paper_of(no) is not None)
                if right:
                    self.is_bool(True, is_paper(yes, paper_of(yes)))
                    self.is_bool(False, is_paper(no, made(lot, nodes, kept)))
                else:
                    graph = paper_of(no)
                    self.is_bool(True, is_paper(no, graph))
                    self.assertTrue(all(set(kept[word]) <= set(pairs(graph, word)) for word in lot))
                    self.assertNotIn(pair, pairs(graph, question))
        self.assertGreater(min(found.values()), 20)

    def test_open_bent(self):
        claim = ("open", Lot(["a"]), "aa", 3, {"a": [(0, 1), (1, 2)]}, (0, 1))
        graph = Graph(3, [(0, "a", 1, 0), (1, "a", 2, 0)])
        self.is_bool(True, is_paper(claim, graph))
        # More nodes, more ties, any costs; but all kept pairs, and not this one.
        self.is_bool(True, is_paper(claim, Graph(5, [(0, "a", 1, 9), (1, "a", 2, 0), (4, "a", 4, 1), (3, "b", 1, 0)])))
        self.is_bool(False, is_paper(claim, Graph(2, [(0, "a", 1, 0)])))
        self.is_bool(False, is_paper(claim, graph - (0, "a", 1, 0)))
        self.is_bool(False, is_paper(claim, graph - (1, "a", 2, 0)))
        self.is_bool(False, is_paper(claim, graph + (1, "a", 1, 0)))
        self.is_bool(False, is_paper(claim, graph.ties()))
        less = ("open", Lot(["a"]), "aa", 3, {"a": [(0, 1)]}, (0, 1))
        self.is_bool(False, is_paper(less, Graph(2, [(0, "a", 1, 0)])))
        self.is_bool(True, is_paper(less, Graph(3, [(0, "a", 1, 0)])))
        chain = ("sure", Lot(["a"]), "aa", 3, {"a": [(0, 1), (1, 2)]}, (0, 2))
        self.is_bool(True, is_paper(chain, [(0, "a", 1), (1, "a", 2)]))
        for value in ([(0, "a", 1)], [(0, "aa", 2)], [(0, "a", 1), (1, "a", True)], [[0, "a", 1], [1, "a", 2]]):
            self.is_bool(False, is_paper(chain, value), value)

    def test_two_lots(self):
        source = seeded(980)
        found = {}
        for _ in range(60):
            one, other = Lot(some_words(source, "ab", 4, 3)), Lot(some_words(source, "ab", 3, 4))
            right = all(joined(one, word) for word in other)
            found[right] = found.get(right, 0) + 1
            self.is_bool(right, covers(one, other))
            yes, no = ("covers", one, other), ("lacks", one, other)
            self.is_bool(right, is_true(yes))
            self.is_bool(not right, is_true(no))
            if right:
                paper = paper_of(yes)
                self.assertEqual(other.words(), list(paper))
                self.is_bool(True, is_paper(yes, paper))
                self.assertTrue(all(is_plan(one, word, paper[word]) for word in other))
                self.assertIsNone(paper_of(no))
            else:
                word, places = paper_of(no)
                self.is_bool(True, is_paper(no, (word, places)))
                self.assertTrue(word in other and is_cut(one, word, places))
                self.assertIsNone(paper_of(yes))
        self.assertGreater(min(found.values()), 10)

    def test_two_lots_bent(self):
        claim = TRUE["covers"]
        paper = paper_of(claim)
        self.is_bool(True, is_paper(claim, {"b": ((0, "b", 1),), "abc": tuple(paper["abc"])}))
        for value in ({"b": paper["b"]}, {**paper, "ab": [(0, "ab", 2)]}, {**paper, "b": []}, {**paper, "b": None}, {},
                      list(paper.items()), {**paper, "abc": paper["abc"][:2]}, {"b": paper["abc"], "abc": paper["b"]},
                      {**paper, None: []}, {0: paper["b"], "abc": paper["abc"]}, {**paper, "b": [(0, "b", True)]}):
            self.is_bool(False, is_paper(claim, value), value)
        self.is_bool(True, is_paper(("covers", Lot(), Lot()), {}))
        claim = TRUE["lacks"]
        self.is_bool(True, is_paper(claim, ("abc", [0, 2])))
        self.is_bool(True, is_paper(claim, ("abc", (0, 2))))
        for value in (["abc", [0, 2]], ("abc",), ("abc", [0, 2], 0), ("ab", [0]), ("ab", [0, 1]), ("c", [0]),
                      ("abc", [0]), ("abc", None), (["abc"], [0, 2]), (None, [0, 2]), (ANY, [0, 2]), ("abc", ANY),
                      ("b", [0])):
            self.is_bool(False, is_paper(claim, value), value)

    def test_endless(self):
        source = seeded(990)
        found = {}
        for turn in range(50):
            letters = "a" if turn % 2 else "ab"
            lot = Lot(some_words(source, letters, 6, 4))
            claim = ("endless", lot, letters)
            right = last_unsettled(lot, letters) is None
            found[right] = found.get(right, 0) + 1
            self.is_bool(right, is_true(claim))
            self.is_bool(right, paper_of(claim) is not None)
            if right:
                self.is_bool(True, is_paper(claim, paper_of(claim)))
        self.assertGreater(min(found.values()), 5)
        for value in (("", "a", "c"), ("a", "", ""), ["a", "a", ""], ("a", "a"), ("", "ab", "")):
            self.is_bool(False, is_paper(("endless", Lot(["ab"]), "ab"), value), value)
        self.is_bool(True, is_paper(("endless", Lot(["ab"]), "ab"), ("a", "ab", "")))

    def test_turns(self):
        source = seeded(991)
        found = {}
        for _ in range(80):
            lot = Lot(some_words(source, "ab", 3, 3))
            signed = "".join(source.choice("abAB") for _ in range(source.randint(1, 6)))
            right = does_settle_turn(lot, signed)
            found[right] = found.get(right, 0) + 1
            yes, no = ("turned", lot, signed), ("unturned", lot, signed)
            self.is_bool(right, is_true(yes))
            self.is_bool(not right, is_true(no))
            self.is_bool(True, is_paper(yes if right else no, paper_of(yes if right else no)))
            self.assertIsNone(paper_of(no if right else yes))
        self.assertGreater(min(found.values()), 10)
        # No folds at all are a paper, too.
        self.assertEqual([], paper_of(("turned", Lot(["a"]), "A")))
        self.is_bool(True, is_true(("turned", Lot(["a"]), "A")))
        self.is_bool(True, is_paper(("turned", Lot(), "aA"), []))

    def test_settled_by_bridges_and_by_turns(self):
        # bc, ab: c back, then a; not by bridges, as places have no letters that go back alone.
        self.is_bool(True, is_true(("turned", Lot(["ab", "cb"]), "aC")))
        self.is_bool(False, is_settled(Lot(["ab", "cb"]), "ac"))


if __name__ == "__main__":
    unittest.main()
