"""walksback.turns: signed words, turns, the folded net, folds, twins by turns, turns told from kept ones."""

import functools
import itertools
import unittest
from unittest.mock import ANY

from support import STRANGE, Case, is_plain, seeded, some_words
from walksback.answers import pairs
from walksback.errors import InvalidKept, InvalidMaps, InvalidNodes, InvalidWord, NotSettled, Settled
from walksback.graphs import Graph
from walksback.lots import Lot
from walksback.settled import is_settled
from walksback.turns import (
    Net, Turns, are_folds, are_turn_twins, does_settle_turn, folds, gone_back, reduced, told_turn, turn_twins,
)

LOT = Lot(["ab", "b"])
SOME = Turns(3, {"b": [1, 2, 0], "a": [0, 2, 1]})
WRONG_SIGNED = tuple(value for value in STRANGE if value not in ("A", "aB", "Below")) + (
    "a" * 13, "aB" * 7, "a1", "a b", " a", ["a"], ("a", "b"), b"a", 0, 1, ANY, LOT, "a~", "[", "`", "@", "{",
)


def by_hand(signed):
    """A signed word reduced, a pair of neighbours at a time, wherever one is."""
    for at in range(len(signed) - 1):
        if signed[at] != signed[at + 1] and signed[at].lower() == signed[at + 1].lower():
            return by_hand(signed[:at] + signed[at + 2:])
    return signed


def opposite(signed):
    return "".join(sign.lower() if sign.isupper() else sign.upper() for sign in reversed(signed))


def ring_ties(lot):
    """The ties of the rings of a lot, by the document."""
    ties = set()
    used = 1
    for word in sorted(lot, key=lambda word: (len(word), word)):
        nodes = [0]
        for _ in word[1:]:
            nodes.append(used)
            used += 1
        nodes.append(0)
        ties |= {(nodes[at], letter, nodes[at + 1]) for at, letter in enumerate(word)}
    return ties


def led(ties, node, sign):
    """The nodes to which a sign leads from a node."""
    if sign.islower():
        return {end for begin, letter, end in ties if (begin, letter) == (node, sign)}
    return {begin for begin, letter, end in ties if (end, letter) == (node, sign.lower())}


def all_folds(ties):
    """All folds that are there."""
    nodes = {node for begin, _, end in ties for node in (begin, end)}
    signs = {sign for _, letter, _ in ties for sign in (letter, letter.upper())}
    return sorted({(sign, *both) for node in nodes for sign in signs
                   for both in itertools.combinations(sorted(led(ties, node, sign)), 2)})


def behind(ties, fold):
    """The ties behind a fold."""
    _, one, other = fold
    return {(one if begin == other else begin, letter, one if end == other else end) for begin, letter, end in ties}


def come_back(ties, signed):
    """Whether some walk with the signs leads from the root to the root."""
    nodes = {0}
    for sign in signed:
        nodes = {goal for node in nodes for goal in led(ties, node, sign)}
    return 0 in nodes


def are_right_folds(lot, signed, value):
    """Whether a value is folds that show it, fold by fold."""
    if type(value) not in (list, tuple):
        return False
    ties = ring_ties(lot)
    for fold in value:
        if type(fold) is not tuple or len(fold) != 3 or type(fold[0]) is not str:
            return False
        if type(fold[1]) is not int or type(fold[2]) is not int or fold not in all_folds(ties):
            return False
        ties = behind(ties, fold)
    return come_back(ties, by_hand(signed))


def folded_by_hand(source, lot):
    """The net of a lot: folds in a drawn sequence, until none is left; then numbered as the document says."""
    ties = ring_ties(lot)
    while all_folds(ties):
        ties = behind(ties, source.choice(all_folds(ties)))
    order = [0]
    for node in order:
        for letter in "abcdefghijklmnopqrstuvwxyz":
            for sign in (letter, letter.upper()):
                order += [goal for goal in led(ties, node, sign) if goal not in order]
    return len(order), sorted((order.index(begin), letter, order.index(end)) for begin, letter, end in ties)


@functools.lru_cache(maxsize=None)
def products(words, most):
    """The reduced signed words that come of the words and these gone back, joined, so many at most."""
    met = {""}
    for _ in range(most):
        met |= {by_hand(word + more) for word in met for other in words for more in (other, opposite(other))}
    return met


def drawn(number, rounds=150):
    """Tuples (lot, signed), drawn from a seeded source; many of them settled."""
    source = seeded(number)
    for turn in range(rounds):
        letters = "a" if turn % 4 == 0 else "ab" if turn % 4 < 3 else "abc"
        lot = Lot(some_words(source, letters, 3, 4))
        signed = ""
        if turn % 2 and len(lot):
            while len(signed) < source.randint(1, 9):
                word = source.choice(lot.words())
                signed += word if source.random() < 0.5 else opposite(word)
        else:
            for _ in range(source.randint(1, 7)):
                signed += source.choice(letters + letters.upper())
        yield lot, signed[:12]


def some_turns(source, nodes, letters):
    maps = {}
    for letter in letters:
        maps[letter] = list(range(nodes))
        source.shuffle(maps[letter])
    return Turns(nodes, maps)


class SignedTest(Case):
    def test_ordinary(self):
        self.assertEqual(["ab", "", "aB", "", "a", "AA"],
                         [reduced(signed) for signed in ("abcC", "aA", "aB", "abBA", "abBaAA" + "a", "AA")])
        self.assertEqual(["BA", "bA", "a", "ABab"], [gone_back(signed) for signed in ("ab", "aB", "A", "BAba")])
        self.assertEqual(["ab", "BA"], [reduced(signed="ab"), gone_back(signed="ab")])
        # It is gone back as it stands.
        self.assertEqual("aA", gone_back("aA"))

    def test_all_short_ones(self):
        for size in range(1, 6):
            for some in itertools.product("aAbB", repeat=size):
                signed = "".join(some)
                self.assertEqual(by_hand(signed), reduced(signed))
                self.assertEqual(opposite(signed), gone_back(signed))
                self.assertEqual(signed, gone_back(gone_back(signed)))

    def test_twelve_signs(self):
        self.assertEqual(["", "zZ" * 6], [reduced("zZ" * 6), gone_back("zZ" * 6)])
        self.assertEqual("abcdefABCDEF", reduced("abcdefABCDEF"))

    def test_errors(self):
        for action in (reduced, gone_back):
            self.fails_for_all(InvalidWord, WRONG_SIGNED, action)


class TurnsTest(Case):
    def test_ordinary(self):
        self.assertEqual([3, "ab"], [SOME.nodes, SOME.letters()])
        self.assertEqual([[1, 2, 0], [0, 2, 1], [2, 0, 1], [0, 2, 1]], [SOME.turn(signed) for signed in "baBA"])
        # First by a, then by b.
        self.assertEqual([[1, 0, 2], [2, 1, 0]], [SOME.turn("ab"), SOME.turn(signed="ba")])
        self.assertEqual([0, 1, 2], SOME.turn("abBA"))
        self.assertEqual(Graph(3, [(0, "a", 0, 0), (1, "a", 2, 0), (2, "a", 1, 0), (0, "b", 1, 0), (1, "b", 2, 0),
                                   (2, "b", 0, 0)]), SOME.graph())
        self.assertEqual(SOME, Turns(nodes=3, maps={"a": (0, 2, 1), "b": (1, 2, 0)}))
        nothing = Turns(2, {})
        self.assertEqual([2, "", Graph(2)], [nothing.nodes, nothing.letters(), nothing.graph()])

    def test_against_the_definition(self):
        source = seeded(860)
        for _ in range(60):
            nodes = source.randint(1, 6)
            turns = some_turns(source, nodes, "abz")
            graph = turns.graph()
            for _ in range(6):
                signed = "".join(source.choice("abzABZ") for _ in range(source.randint(1, 12)))
                told = turns.turn(signed)
                self.assertEqual(list(range(nodes)), sorted(told))
                self.assertTrue(is_plain(told))
                at = list(range(nodes))
                for sign in signed:
                    leads = {begin: end for begin, letter, end, _ in graph if letter == sign.lower()}
                    if sign.isupper():
                        leads = {end: begin for begin, end in leads.items()}
                    at = [leads[node] for node in at]
                self.assertEqual(at, told)
                back = turns.turn(gone_back(signed))
                self.assertEqual(list(range(nodes)), [back[node] for node in told])
                if signed.islower():
                    self.assertEqual(sorted(enumerate(told)), pairs(graph, signed))

    def test_300_nodes(self):
        source = seeded(861)
        turns = some_turns(source, 300, "abcdefghijklmnopqrstuvwxyz")
        self.assertEqual([300, 7800], [turns.graph().nodes, len(turns.graph())])
        self.assertEqual(list(range(300)), turns.turn("aBcCbA"))
        self.fails(InvalidNodes, {"value": 301}, Turns, 301, {"a": list(range(301))})

    def test_equality(self):
        self.is_bool(True, SOME == Turns(3, {"a": [0, 2, 1], "b": [1, 2, 0]}))
        for other in (Turns(3, {"a": [0, 2, 1]}), Turns(3, {"a": [0, 2, 1], "b": [1, 2, 0], "c": [0, 1, 2]}), None, 3,
                      Turns(3, {"a": [0, 2, 1], "b": [2, 0, 1]}), {"a": [0, 2, 1]}, SOME.graph(), Net(LOT)):
            self.is_bool(False, SOME == other)
            self.is_bool(True, SOME != other)
        self.is_bool(False, Turns(1, {}) == Turns(2, {}))

    def test_errors(self):
        for value in STRANGE + (0, 301, "3", [3], ANY, 10 ** 9):
            self.fails(InvalidNodes, {"value": value}, Turns, value, {})
        for value in STRANGE + ([("a", [0, 1])], {"a": [0]}, {"a": [0, 0]}, {"a": [1, 2]}, {"a": [0, 1, 2]},
                                {"a": "01"},
                                {"a": [True, 0]}, {"a": [False, 1]}, {"a": None}, {"A": [0, 1]}, {"ab": [0, 1]}, ANY,
                                {"": [0, 1]}, {0: [0, 1]}, {("a",): [0, 1]}, {"a": [0, 1], "b": [0, None]}, [[0, 1]],
                                {"a": {0: 1, 1: 0}}, {"a": [0, ANY]}, {"a": ANY}, SOME, {"a": [-1, 0]}):
            if value != {} or not isinstance(value, dict):
                self.fails(InvalidMaps, {"value": value}, Turns, 2, value)
        self.sequence(Turns, {"nodes": 2, "maps": {"a": [1, 0]}}, [
            ({"nodes": True}, InvalidNodes, {"value": True}), ({"maps": {"a": [1]}}, InvalidMaps, {}),
        ])
        self.fails_for_all(InvalidWord, WRONG_SIGNED + ("c", "abC", "C"), SOME.turn)
        self.fails_for_all(InvalidWord, ("a", "A"), Turns(2, {}).turn)

    def test_parts_are_copied(self):
        maps = {"b": [1, 0], "a": [0, 1]}
        turns = Turns(2, maps)
        maps["b"].reverse()
        maps["c"] = [0, 1]
        self.assertEqual(["ab", [1, 0]], [turns.letters(), turns.turn("b")])
        self.tells_anew(lambda: turns.turn("ab"))
        self.tells_anew(lambda: turns.graph().ties())
        self.leaves((2, {"b": [1, 0], "a": [0, 1]}), Turns)


class NetTest(Case):
    def test_ordinary(self):
        net = Net(lot=Lot(["aa", "aaa"]))
        self.assertEqual([[(0, "a", 0)], 1, 1], [net.ties(), len(net), net.rank()])
        net = Net(Lot(["ab", "cb"]))
        self.assertEqual([[(0, "a", 1), (0, "c", 1), (1, "b", 0)], 2, 2], [net.ties(), len(net), net.rank()])
        self.assertEqual([1, 0, None, 1, 0, 1], [net.leads(signed) for signed in ("a", "ab", "b", "B", "aC", "abB")])
        # Sign by sign as it stands, not reduced.
        self.assertEqual([None, 0], [net.leads("bB"), net.leads(signed="Bb")])

    def test_the_net_of_the_empty_lot(self):
        net = Net(Lot())
        self.assertEqual([[], 1, 0, None], [net.ties(), len(net), net.rank(), net.leads("a")])
        self.is_bool(True, net == Net(Lot([])))

    def test_numbered_as_the_nodes_are_come_to(self):
        # From the root by a, then back by a, then by b.
        self.assertEqual([(0, "a", 1), (1, "a", 3), (2, "a", 0), (3, "a", 4), (4, "a", 2)],
                         Net(Lot(["aaaaa"])).ties())
        self.assertEqual([(0, "b", 1), (1, "a", 2), (2, "c", 0)], Net(Lot(["bac"])).ties())
        self.assertEqual([(0, "a", 1), (1, "c", 2), (2, "b", 0)], Net(Lot(["acb"])).ties())
        self.assertEqual([(0, "a", 1), (1, "b", 3), (2, "a", 0), (3, "b", 2)], Net(Lot(["abba"])).ties())

    def test_by_hand(self):
        source = seeded(870)
        for lot, signed in drawn(870, 120):
            nodes, ties = folded_by_hand(source, lot)
            net = Net(lot)
            self.assertEqual([ties, nodes, len(ties) - nodes + 1], [net.ties(), len(net), net.rank()])
            self.assertTrue(is_plain(net.ties()))
            for other in (signed, by_hand(signed) or "a", *lot):
                node = 0
                for sign in other:
                    goals = led(ties, node, sign) if node is not None else ()
                    node = min(goals, default=None)
                self.assertEqual(node, net.leads(other))
            for word in lot:
                self.assertEqual(0, net.leads(word))

    def test_great_lots(self):
        source = seeded(871)
        lot = Lot(["".join(source.choice("ab") for _ in range(12)) for _ in range(10)])
        self.assertEqual(folded_by_hand(source, lot), (len(Net(lot)), Net(lot).ties()))
        alone = Lot([letter * 12 for letter in "abcdefghij"])
        self.assertEqual([111, 10], [len(Net(alone)), Net(alone).rank()])

    def test_equality(self):
        self.is_bool(True, Net(Lot(["aa", "aaa"])) == Net(Lot(["a"])))
        self.is_bool(True, Net(Lot(["ab", "b"])) == Net(Lot(["b", "a", "aab"])))
        for other in (Net(Lot(["b"])), Net(Lot()), Net(Lot(["aa"])), None, [(0, "a", 0)], Lot(["a"]), 1):
            self.is_bool(False, Net(Lot(["a"])) == other)
            self.is_bool(True, Net(Lot(["a"])) != other)

    def test_errors_and_what_is_told_is_new(self):
        self.fails_for_all(InvalidWord, WRONG_SIGNED, Net(LOT).leads)
        self.fails_for_all(InvalidWord, WRONG_SIGNED, Net(Lot()).leads)
        self.tells_anew(Net(LOT).ties)
        self.leaves((LOT,), Net)


class SettledTurnTest(Case):
    def test_ordinary(self):
        self.is_bool(True, does_settle_turn(LOT, "a"))
        self.is_bool(True, does_settle_turn(lot=LOT, signed="abAB"))
        self.is_bool(False, does_settle_turn(LOT, "c"))
        self.is_bool(False, does_settle_turn(Lot(["aa"]), "a"))
        self.is_bool(True, does_settle_turn(Lot(["aa", "aaa"]), "A"))
        self.assertEqual([("B", 0, 1)], folds(LOT, "a"))
        self.assertEqual([("B", 0, 1)], folds(lot=LOT, signed="a"))

    def test_what_is_nothing_if_reduced(self):
        # It stays where it is, whatever is kept.
        for lot in (Lot(), Lot(["ab"])):
            self.is_bool(True, does_settle_turn(lot, "aA"))
            self.is_bool(True, are_folds(lot, "zZ", folds(lot, "zZ")))
            self.is_bool(True, are_folds(lot, "bB", []))
            self.fails(Settled, {"value": "aA"}, turn_twins, lot, "aA")
        self.assertEqual([1, 0], told_turn(Lot(["a"]), "bBa", {"a": [1, 0]}))
        self.assertEqual([0, 1], told_turn(Lot(["a"]), "bB", {"a": [1, 0]}))

    def test_against_products_of_the_words(self):
        found = [0, 0]
        for lot, signed in drawn(880, 200):
            settled = does_settle_turn(lot, signed)
            found[settled] += 1
            if by_hand(signed) in products(tuple(lot), 3):
                self.is_bool(True, settled)
            self.is_bool(settled, come_back(Net(lot).ties(), by_hand(signed)))
            self.is_bool(settled, does_settle_turn(lot, gone_back(signed)))
            # What is settled by bridges is settled here, too: each bridge back is a turn gone back.
            if signed.islower() and is_settled(lot, signed):
                self.is_bool(True, settled)
            # One of both: folds that show it, or twins that show the contrary.
            if settled:
                self.fails(Settled, {"value": signed}, turn_twins, lot, signed)
                told = folds(lot, signed)
                self.is_bool(True, are_folds(lot, signed, told))
                self.assertTrue(are_right_folds(lot, signed, told))
            else:
                self.fails(NotSettled, {"value": signed}, folds, lot, signed)
                self.check_twins(lot, signed)
        self.assertGreater(min(found), 40)

    def check_twins(self, lot, signed):
        twins = turn_twins(lot, signed)
        self.assertIs(tuple, type(twins))
        one, other = twins
        self.assertEqual(["".join(sorted(set(lot.letters() + signed.lower())))] * 2, [one.letters(), other.letters()])
        self.assertEqual(one.nodes, other.nodes)
        for word in lot:
            self.assertEqual(one.turn(word), other.turn(word))
        self.assertNotEqual(one.turn(signed), other.turn(signed))
        self.is_bool(True, are_turn_twins(lot, signed, twins))

    def test_great_lots(self):
        alone = Lot([letter * 12 for letter in "abcdefghij"])
        for signed in ("zyxwvutsrqpo", "aBcDeFgHiJkL", "a" * 11, "A", "j" * 11 + "A"):
            self.check_twins(alone, signed)
        self.is_bool(True, are_folds(alone, "J" * 12, folds(alone, "J" * 12)))
        many = Lot(["a" * size for size in range(3, 13)])
        self.is_bool(True, are_folds(many, "a", folds(many, "a")))

    def test_errors(self):
        actions = (does_settle_turn, folds, turn_twins, lambda lot, value: are_folds(lot, value, []),
                   lambda lot, value: are_turn_twins(lot, value, None), lambda lot, value: told_turn(lot, value, {}))
        for action in actions:
            self.fails_for_all(InvalidWord, WRONG_SIGNED, lambda value: action(LOT, value))
            self.fails_for_all(InvalidWord, WRONG_SIGNED, lambda value: action(Lot(), value))
        self.fails(NotSettled, {"value": "cC" + "c"}, folds, LOT, "cCc")
        self.tells_anew(lambda: folds(LOT, "a"))
        self.tells_anew(lambda: [part.graph().ties() for part in turn_twins(LOT, "c")])


class FoldsTest(Case):
    def test_by_the_folding_of_the_document(self):
        source = seeded(890)
        found = [0, 0]
        for lot, signed in drawn(890, 100):
            ties = ring_ties(lot)
            value = []
            while True:
                right = are_right_folds(lot, signed, value)
                found[right] += 1
                self.is_bool(right, are_folds(lot, signed, list(value)))
                some = all_folds(ties)
                for wrong in (("a", 0, 1), ("A", 1, 2), ("b", 0, 3), ("c", 0, 1)):
                    if wrong not in some:
                        self.is_bool(False, are_folds(lot, signed, [*value, wrong]))
                if not some:
                    break
                value.append(source.choice(some))
                ties = behind(ties, value[-1])
            if value:
                self.is_bool(False, are_folds(lot, signed, [*value, value[-1]]))
                self.is_bool(are_right_folds(lot, signed, value[::-1]), are_folds(lot, signed, tuple(value[::-1])))
        self.assertGreater(min(found), 40)

    def test_as_few_as_show_it(self):
        lot = Lot(["ab", "b", "cc", "ccc"])
        self.is_bool(True, are_folds(lot, "a", [("B", 0, 1)]))
        self.is_bool(True, are_folds(lot=lot, signed="ab", value=()))
        self.is_bool(False, are_folds(lot, "a", []))
        self.is_bool(False, are_folds(lot, "c", [("B", 0, 1)]))
        # A fold is of two nodes.
        self.is_bool(True, are_folds(Lot(["b"]), "b", []))
        self.is_bool(False, are_folds(Lot(["b"]), "b", [("b", 0, 0)]))
        self.is_bool(False, are_folds(LOT, "a", [("B", 0, 1), ("a", 0, 0)]))
        # By some walk: where a sign leads from a node to several ones, any of them will do.
        self.is_bool(True, are_folds(Lot(["ab", "ac"]), "abCA", []))
        self.is_bool(False, are_folds(Lot(["ab", "ac"]), "bC", []))

    def test_nodes_that_are_gone(self):
        lot = Lot(["aa", "aaa"])
        self.assertEqual([("A", 1, 3), ("a", 1, 2)], all_folds(ring_ties(lot)))
        self.is_bool(True, are_folds(lot, "a", [("A", 1, 3), ("A", 0, 2), ("A", 0, 1)]))
        # Behind the first fold 3 is no node any more.
        self.is_bool(False, are_folds(lot, "a", [("A", 1, 3), ("A", 2, 3), ("A", 0, 1)]))
        self.is_bool(False, are_folds(lot, "a", [("A", 3, 1), ("A", 0, 2), ("A", 0, 1)]))
        self.is_bool(False, are_folds(lot, "a", [("A", 1, 3), ("A", 1, 3), ("A", 0, 2)]))

    def test_any_value(self):
        for value in STRANGE + (("B", 0, 1), [["B", 0, 1]], [("B", 1, 0)], [("b", 0, 1)], [("B", 0, 2)], [("B", 0, 0)],
                                [("B", False, True)], [("B", False, 1)], [("B", 0, True)], [("BB", 0, 1)], [("", 0, 1)],
                                [(None, 0, 1)], [("B", "0", 1)], [("B", 0)], [("B", 0, 1, 0)], {("B", 0, 1): 1}, ANY,
                                [ANY], [(ANY, 0, 1)], [("B", ANY, 1)], [("B", 0, ANY)], [("B", 0, 1), None], "B01",
                                [("B", 0, 1), ("B", 0, 1)], LOT, Net(LOT), [(["B"], 0, 1)], [("B", [0], 1)]):
            self.is_bool(False, are_folds(LOT, "a", value), value)
            self.is_bool(False, are_folds(LOT, "c", value), value)
            self.is_bool(False, are_folds(Lot(), "c", value), value)
        self.leaves((LOT, "a", [("B", 0, 1)]), are_folds)


class TurnTwinsTest(Case):
    def test_against_the_definition(self):
        source = seeded(900)
        found = [0, 0]
        for lot, signed in drawn(900, 150):
            letters = "".join(sorted(set(lot.letters() + signed.lower())))
            some = [some_turns(source, source.randint(2, 3), letters + source.choice(("", "z"))) for _ in range(4)]
            for one, other in itertools.product(some, repeat=2):
                right = (one.nodes == other.nodes and all(one.turn(word) == other.turn(word) for word in lot)
                         and one.turn(signed) != other.turn(signed))
                found[right] += 1
                self.is_bool(right, are_turn_twins(lot, signed, (one, other)))
                self.assertFalse(right and does_settle_turn(lot, signed))
        self.assertGreater(min(found), 20)

    def test_letters(self):
        lot = Lot(["ab"])
        one, other = Turns(2, {"a": [0, 1], "b": [0, 1]}), Turns(2, {"a": [1, 0], "b": [1, 0]})
        self.is_bool(True, are_turn_twins(lot=lot, signed="a", value=(one, other)))
        self.is_bool(True, are_turn_twins(lot, "Aba", (other, one)))
        more = Turns(2, {"a": [1, 0], "b": [1, 0], "z": [0, 1]})
        self.is_bool(True, are_turn_twins(lot, "a", (one, more)))
        # A letter of the lot, or of the signed word, lacks, also one that goes if it is reduced.
        self.is_bool(False, are_turn_twins(lot, "a", (Turns(2, {"a": [0, 1]}), other)))
        self.is_bool(False, are_turn_twins(lot, "a", (one, Turns(2, {"a": [1, 0]}))))
        self.is_bool(False, are_turn_twins(lot, "azZ", (one, other)))
        self.is_bool(False, are_turn_twins(lot, "azZ", (one, more)))
        self.assertEqual(["abz", "abz"], [part.letters() for part in turn_twins(lot, "azZ")])

    def test_any_value(self):
        one, other = turn_twins(LOT, "c")
        for value in STRANGE + ([one, other], (one,), (one, other, one), (one, one), one, (one, None), (None, other),
                                (one.graph(), other.graph()), (one, ANY), (ANY, other), ((one, other),), ANY,
                                {one.nodes: one},
                                (Turns(1, {}), Turns(1, {})), (one, Turns(1, {"a": [0], "b": [0], "c": [0]}))):
            self.is_bool(False, are_turn_twins(LOT, "c", value), value)
            self.is_bool(False, are_turn_twins(LOT, "a", value), value)


class ToldTurnTest(Case):
    def test_ordinary(self):
        self.assertEqual([1, 2, 0], told_turn(LOT, "a", {"ab": [2, 0, 1], "b": [1, 2, 0]}))
        self.assertEqual([2, 0, 1], told_turn(lot=LOT, signed="A", kept={"b": (1, 2, 0), "ab": (2, 0, 1)}))
        self.assertEqual([2, 0, 1], told_turn(Lot(["aaa", "aa"]), "AA", {"aa": [1, 2, 0], "aaa": [0, 1, 2]}))
        self.assertEqual([0], told_turn(Lot(["a"]), "a", {"a": [0]}))

    def test_the_turns_of_drawn_turns(self):
        source = seeded(910)
        found = 0
        for lot, signed in drawn(910, 250):
            letters = "".join(sorted(set(lot.letters() + signed.lower())))
            turns = some_turns(source, source.randint(1, 7), letters)
            kept = {word: turns.turn(word) for word in lot}
            if not len(lot):
                self.fails(InvalidKept, {"value": kept}, told_turn, lot, signed, kept)
            elif does_settle_turn(lot, signed):
                told = told_turn(lot, signed, kept)
                self.assertEqual(turns.turn(signed), told)
                self.assertTrue(is_plain(told))
                found += 1
            else:
                self.fails(NotSettled, {"value": signed}, told_turn, lot, signed, kept)
        self.assertGreater(found, 80)

    def test_many_folds_and_300_nodes(self):
        source = seeded(911)
        turns = some_turns(source, 300, "ab")
        lot = Lot(["a" * 12, "a" * 11, "ab" * 6, "ab" * 5, "abb", "aab", "bbb" * 4])
        kept = {word: turns.turn(word) for word in lot}
        for signed in ("a", "b", "aBABab", "A" * 12, "ab" * 6):
            self.assertEqual(turns.turn(signed), told_turn(lot, signed, kept))

    def test_errors(self):
        good = {"ab": [1, 0], "b": [0, 1]}
        for value in STRANGE + ({"ab": [1, 0]}, {**good, "c": [0, 1]}, {"ab": [1, 0], "c": [0, 1]},
                                {"ab": [1, 0], "b": [0]},
                                {"ab": [1, 0], "b": [0, 0]}, {"ab": [1, 0], "b": [1, 2]}, {"ab": [1, 0], "b": None},
                                {"ab": [1, 0], "b": "01"}, {"ab": [True, 0], "b": [0, 1]}, {"ab": [], "b": []}, ANY,
                                {"ab": [1, 0], "b": [0, False]}, {"ab": [1, 0], "b": [0, 1, 2]}, [[1, 0], [0, 1]],
                                {"ab": [1, 0], "b": {0: 0, 1: 1}}, [("ab", [1, 0]), ("b", [0, 1])], good.items(),
                                {"ab": [1, 0], "b": ANY}, {"ab": [1, 0], "b": [0, ANY]}, {"ab": 2, "b": 2}):
            self.fails(InvalidKept, {"value": value}, told_turn, LOT, "a", value)
            self.fails(InvalidKept, {"value": value}, told_turn, LOT, "c", value)
        # One word at least: of a lot without words nothing is told.
        self.fails(InvalidKept, {}, told_turn, Lot(), "aA", {})
        self.sequence(told_turn, {"lot": LOT, "signed": "a", "kept": good}, [
            ({"signed": "a a"}, InvalidWord, {}), ({"kept": {"b": [0]}}, InvalidKept, {}),
        ])
        self.sequence(told_turn, {"lot": LOT, "signed": "a", "kept": good}, [
            ({"kept": {}}, InvalidKept, {}), ({"signed": "c"}, NotSettled, {"value": "c"}),
        ])
        self.tells_anew(lambda: told_turn(LOT, "a", good))
        self.leaves((LOT, "a", {"ab": [1, 0], "b": [0, 1]}), told_turn)


if __name__ == "__main__":
    unittest.main()
