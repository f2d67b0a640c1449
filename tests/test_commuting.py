"""walksback.commuting: exchanges, forms, beginnings, leaps; ways, rifts, twins by a rift."""

import functools
import itertools
import unittest
from unittest.mock import ANY

from support import STRANGE, Case, is_plain, seeded, some_relation, some_word, some_words
from test_work import WRONG_NODES
from walksback.answers import counts, kept, pairs
from walksback.commuting import (
    Exchanges, apart, are_like, beginnings, does_keep, does_settle, form, how_many_like, is_rift, is_way, leaps, rest,
    rift, told_under, way,
)
from walksback.errors import (
    InvalidCut, InvalidKept, InvalidNodes, InvalidPairs, InvalidPlace, InvalidWord, NotSettled, Settled, TooMany,
)
from walksback.graphs import Graph
from walksback.lots import Lot
from walksback.settled import cut, is_settled, plan
from walksback.twins import is_parting
from walksback.work import told

BC = Exchanges([("b", "c")])
LOT = Lot(["b", "ac"])
# 3 * 4 * 5 beginnings, and one more.
ALL = Exchanges([("a", "b"), ("a", "c"), ("b", "c")])
SIXTY = "aabbbcccc"
WRONG_WORDS = STRANGE + (["a"], ("a", "b"), 0, 1, b"a", ANY, Lot(["a"]), "a" * 25)
WRONG_QUESTIONS = WRONG_WORDS + ("a" * 13, "abc" * 5)


@functools.lru_cache(maxsize=None)
def all_like(some, word):
    """All words that come from a word by exchanging neighbours that commute; some are pairs, in both sequences."""
    met = {word}
    waiting = [word]
    while waiting:
        other = waiting.pop()
        for at in range(len(other) - 1):
            if (other[at], other[at + 1]) in some:
                turned = other[:at] + other[at + 1] + other[at] + other[at + 2:]
                if turned not in met:
                    met.add(turned)
                    waiting.append(turned)
    return frozenset(met)


def both(exchanges):
    """The pairs of exchanges in both sequences."""
    return frozenset(exchanges.pairs()) | frozenset((other, one) for one, other in exchanges.pairs())


def least_like(exchanges, word):
    return min(all_like(both(exchanges), word))


def all_beginnings(exchanges, question):
    """A dict from the beginnings to their rests, by all words that are like the question."""
    told_rests = {}
    for word in all_like(both(exchanges), question):
        for at in range(len(word) + 1):
            begin, left = least_like(exchanges, word[:at]), least_like(exchanges, word[at:])
            assert told_rests.setdefault(begin, left) == left
    return {begin: told_rests[begin] for begin in sorted(told_rests, key=lambda some: (len(some), some))}


def all_leaps(exchanges, lot, question):
    some = all_beginnings(exchanges, question)
    found = [(begin, word, least_like(exchanges, begin + word)) for begin in some for word in lot]
    return sorted(leap for leap in found if leap[2] in some)


def all_steps(exchanges, lot, question):
    found = all_leaps(exchanges, lot, question)
    return sorted(found + [(end, word, begin) for begin, word, end in found])


def shortest_ways(exchanges, lot, question, most=6):
    """All ways of the fewest steps, up to a number of steps."""
    steps = all_steps(exchanges, lot, question)
    last = least_like(exchanges, question)
    lists = [[]]
    for _ in range(most):
        lists = [[*some, step] for some in lists for step in steps
                 if step[0] == (some[-1][2] if some else "") and step[2] not in [part[0] for part in some]]
        found = [some for some in lists if some[-1][2] == last]
        if found:
            return found
        if len(lists) > 3000:
            return None
    return []


def reached(exchanges, lot, question):
    """The beginnings that steps lead to from the empty one."""
    steps = all_steps(exchanges, lot, question)
    met = {""}
    while True:
        more = {end for begin, _, end in steps if begin in met} - met
        if not more:
            return met
        met |= more


def drawn(number, rounds=120):
    """Tuples (exchanges, lot, question), drawn from a seeded source; few beginnings."""
    source = seeded(number)
    for turn in range(rounds):
        letters = "ab" if turn % 3 == 0 else "abc" if turn % 3 == 1 else "abcd"
        commuting = [pair for pair in itertools.combinations(letters, 2) if source.random() < 0.5]
        exchanges = Exchanges([pair if source.random() < 0.5 else pair[::-1] for pair in commuting])
        question = some_word(source, letters, 6)
        words = set(some_words(source, letters, 2, 3))
        other = sorted(all_like(both(exchanges), question))
        for _ in range(source.randint(0, 3)):
            word = source.choice(other)
            begin = source.randrange(len(word))
            words.add(word[begin:begin + source.randint(1, 3)])
        yield exchanges, Lot(sorted(words)), question


def grid(source, exchanges, letters):
    """A graph that keeps the exchanges: at each node stands a tuple, of which each letter changes some parts."""
    groups = []
    for letter in letters:
        groups.append([at for at, other in enumerate(letters) if other == letter or (letter, other) not in exchanges])
    # Two letters change a part in common exactly if they do not commute.
    parts = sorted({tuple(sorted((one, other))) for one, group in enumerate(groups) for other in group})
    size = 2
    nodes = list(itertools.product(range(size), repeat=len(parts)))
    ties = []
    for at, letter in enumerate(letters):
        mine = [number for number, part in enumerate(parts) if at in part]
        values = list(itertools.product(range(size), repeat=len(mine)))
        leads = {(one, other) for one in values for other in values if source.random() < 0.45}
        inside = [tuple(node[number] for number in mine) for node in nodes]
        around = [tuple(part for number, part in enumerate(node) if number not in mine) for node in nodes]
        ties += [(x, letter, y, 0) for x, y in itertools.product(range(len(nodes)), repeat=2)
                 if around[x] == around[y] and (inside[x], inside[y]) in leads]
    return len(nodes), ties


class ExchangesTest(Case):
    def test_ordinary(self):
        some = Exchanges([("c", "b"), ("a", "z"), ("a", "b")])
        self.assertEqual([("a", "b"), ("a", "z"), ("b", "c")], some.pairs())
        self.assertEqual(3, len(some))
        self.assertEqual("Exchanges([('a', 'b'), ('a', 'z'), ('b', 'c')])", repr(some))
        self.assertEqual("Exchanges([('a', 'b')])", repr(Exchanges(pairs=(("b", "a"),))))
        self.assertEqual(["Exchanges([])", 0, []], [repr(Exchanges()), len(Exchanges()), Exchanges(()).pairs()])
        self.is_bool(True, some == Exchanges([("b", "a"), ("b", "c"), ("z", "a")]))
        for other in (Exchanges(), Exchanges([("a", "b"), ("b", "c")]), some.pairs(), None, repr(some), 3, Lot()):
            self.is_bool(False, some == other)
            self.is_bool(True, some != other)

    def test_in(self):
        some = Exchanges([("c", "b"), ("a", "b")])
        for one, other in itertools.product("abcz", repeat=2):
            self.is_bool({one, other} in ({"b", "c"}, {"a", "b"}), (one, other) in some)
        for value in STRANGE + (["a", "b"], "ab", ("a",), ("a", "b", "c"), ("a", "B"), ("b", "b"), ("a", ["b"]), ANY,
                                (ANY, "b"), ("a", ANY), (ANY, ANY), {"a": "b"}, (("a", "b"),), ("a", None), 0):
            self.is_bool(False, value in some, value)
            self.is_bool(False, value in Exchanges(), value)

    def test_errors(self):
        for value in STRANGE + ("ab", {("a", "b"): 1}, ANY, Exchanges(), 0):
            if not isinstance(value, (list, tuple)):
                self.fails(InvalidPairs, {"position": None}, Exchanges, value)
        for value in STRANGE + (["b", "c"], "bc", ("b",), ("b", "c", "d"), ("b", "b"), ("b", "C"), ("bb", "c"), ANY,
                                (ANY, "c"), ("b", ANY), ("a", "z"), ("z", "a"), ("b", None), (["b"], "c"), 0):
            self.fails(InvalidPairs, {"position": 1}, Exchanges, [("a", "z"), value, ("a", "a")])
            self.fails(InvalidPairs, {"position": 1}, Exchanges, (("z", "a"), value))
        self.fails(InvalidPairs, {"position": 2}, Exchanges, [("a", "b"), ("b", "c"), ("b", "a"), None])

    def test_parts_are_copied(self):
        some = [("b", "a")]
        exchanges = Exchanges(some)
        some.append(("c", "d"))
        self.assertEqual([("a", "b")], exchanges.pairs())
        self.tells_anew(exchanges.pairs)
        self.leaves(([("b", "a"), ("a", "c")],), Exchanges)


class FormTest(Case):
    def test_ordinary(self):
        self.assertEqual(["abc", "acb"], [form(Exchanges([("c", "b")]), "acb"), form(Exchanges(), "acb")])
        self.assertEqual("abc", form(exchanges=BC, word="acb"))
        self.is_bool(True, are_like(BC, "acb", "abc"))
        self.is_bool(False, are_like(exchanges=BC, one="acb", other="bac"))
        self.is_bool(False, are_like(BC, "acb", "acbb"))
        # b comes ahead of c, and then a is held up by it.
        self.assertEqual("cab", form(Exchanges([("b", "c")]), "cab"))
        self.assertEqual("bca", form(Exchanges([("b", "c")]), "cba"))
        self.assertEqual("aabbcc", form(ALL, "cbacba"))

    def test_against_all_that_are_like(self):
        changed = 0
        for exchanges, _, question in drawn(800, 250):
            like = all_like(both(exchanges), question)
            self.assertEqual(min(like), form(exchanges, question))
            changed += min(like) != question
            for word in sorted(like)[:20]:
                self.assertEqual(min(like), form(exchanges, word))
                self.is_bool(True, are_like(exchanges, word, question))
            for word in {"".join(some) for some in itertools.islice(itertools.permutations(question), 60)}:
                self.is_bool(word in like, are_like(exchanges, question, word))
        self.assertGreater(changed, 60)

    def test_words_of_24_letters(self):
        self.assertEqual("a" * 12 + "b" * 12, form(ALL, "ba" * 12))
        self.is_bool(True, are_like(ALL, "ba" * 12, "ab" * 12))
        self.assertEqual("ba" * 12, form(Exchanges(), "ba" * 12))

    def test_does_keep(self):
        graph = Graph(3, [(0, "a", 1, 5), (1, "b", 2, 0), (0, "b", 0, 0)])
        self.is_bool(True, does_keep(Exchanges(), graph))
        self.is_bool(False, does_keep(exchanges=Exchanges([("a", "b")]), graph=graph))
        self.is_bool(True, does_keep(Exchanges([("a", "c"), ("b", "z")]), graph))
        # Pairs alone count, not costs, and not how many walks there are.
        more = graph + (0, "b", 1, 1) + (1, "a", 2, 7) + (0, "a", 2, 3) + (2, "b", 2, 0)
        self.is_bool(pairs(more, "ab") == pairs(more, "ba"), does_keep(Exchanges([("b", "a")]), more))
        twice = Graph(4, [(0, "a", 1, 5), (1, "b", 3, 0), (0, "b", 1, 0), (0, "b", 2, 0), (1, "a", 3, 0),
                          (2, "a", 3, 9)])
        self.assertNotEqual(counts(twice, "ab"), counts(twice, "ba"))
        self.is_bool(True, does_keep(Exchanges([("a", "b")]), twice))
        # Each pair counts.
        self.is_bool(False, does_keep(Exchanges([("a", "c"), ("a", "b")]), graph))

    def test_errors(self):
        self.fails_for_all(InvalidWord, WRONG_WORDS, lambda value: form(BC, value))
        self.fails_for_all(InvalidWord, WRONG_WORDS, lambda value: are_like(BC, value, "a"))
        self.fails_for_all(InvalidWord, WRONG_WORDS, lambda value: are_like(BC, "a", value))
        self.sequence(are_like, {"exchanges": BC, "one": "a", "other": "b"}, [
            ({"one": "A"}, InvalidWord, {"value": "A"}), ({"other": ""}, InvalidWord, {"value": ""}),
        ])


class BeginningsTest(Case):
    def test_ordinary(self):
        self.assertEqual(["", "a", "ab", "ac", "abc"], beginnings(BC, "abc"))
        self.assertEqual(["", "a", "ab", "ac", "abc"], beginnings(exchanges=BC, question="acb"))
        self.assertEqual(["", "a", "aa"], beginnings(BC, "aa"))
        self.assertEqual(["", "b", "c", "bc"], beginnings(BC, "cb"))
        self.assertEqual(["bc", "c", ""], [rest(BC, "acb", "a"), rest(exchanges=BC, question="acb", beginning="ab"),
                                           rest(BC, "acb", "abc")])
        self.assertEqual("abc", rest(BC, "acb", ""))
        self.assertEqual([2, 1, 6], [how_many_like(BC, "abc"), how_many_like(exchanges=BC, question="aaa"),
                                     how_many_like(ALL, "abc")])
        # By length, then letters: with words compared first, b would stand behind aa.
        self.assertEqual(["", "a", "b", "aa", "ab", "aab"], beginnings(Exchanges([("a", "b")]), "baa"))

    def test_against_all_words_that_are_like(self):
        for exchanges, _, question in drawn(810, 200):
            expected = all_beginnings(exchanges, question)
            self.assertEqual(list(expected), beginnings(exchanges, question))
            self.assertEqual(len(all_like(both(exchanges), question)), how_many_like(exchanges, question))
            for begin, left in expected.items():
                self.assertEqual(left, rest(exchanges, question, begin))
            for other in {question, question[::-1], question[1:], question[:2][::-1], question + "a", "z"}:
                if other not in expected:
                    self.fails(InvalidPlace, {"value": other}, rest, exchanges, question, other)

    def test_12_letters_and_13(self):
        self.assertEqual(49, len(beginnings(Exchanges([("a", "b")]), "ab" * 6)))
        self.assertEqual(924, how_many_like(Exchanges([("a", "b")]), "ab" * 6))
        self.assertEqual(["", "a", "ab"], beginnings(Exchanges(), "abc" * 4)[:3])
        self.assertEqual(13, len(beginnings(Exchanges(), "abc" * 4)))
        for action in self.of_question().values():
            self.fails(InvalidWord, {"value": "ab" * 6 + "a"}, action, Exchanges(), "ab" * 6 + "a")

    def test_60_beginnings_and_61(self):
        self.assertEqual(60, len(beginnings(ALL, SIXTY)))
        self.assertEqual("c", rest(ALL, SIXTY, "aabbbccc"))
        for action in self.of_question().values():
            for question in (SIXTY + "d", "d" + SIXTY, "abcabcabcabc"):
                self.fails(TooMany, {"what": "beginnings", "limit": 60}, action, ALL, question)
        many = Exchanges(list(itertools.combinations("abcdefghijkl", 2)))
        for action in self.of_question().values():
            self.fails(TooMany, {"what": "beginnings", "limit": 60}, action, many, "lkjihgfedcba")
        self.assertEqual(32, len(beginnings(many, "abcde")))

    def of_question(self):
        """All functions that have beginnings, called with exchanges and a question."""
        return {
            "beginnings": beginnings, "rest": lambda *two: rest(*two, ""), "how_many_like": how_many_like,
            "leaps": lambda some, question: leaps(some, LOT, question),
            "does_settle": lambda some, question: does_settle(some, LOT, question),
            "way": lambda some, question: way(some, Lot(["a", "b", "c", "d"]), question),
            "is_way": lambda some, question: is_way(some, LOT, question, None),
            "rift": lambda some, question: rift(some, Lot(), question),
            "is_rift": lambda some, question: is_rift(some, LOT, question, None),
            "apart": lambda some, question: apart(some, Lot(), question),
            "told_under": lambda some, question: told_under(some, Lot(["a", "b", "c", "d"]), question, 1,
                                                            {"a": [], "b": [], "c": [], "d": []}),
        }

    def test_errors(self):
        for action in self.of_question().values():
            self.fails_for_all(InvalidWord, WRONG_QUESTIONS, lambda value: action(BC, value))
            action(BC, "abc")
        for value in STRANGE + ("b", "ca", "acb", "abcc", "A", ["a"], ("a",), 0, 1, b"a", ANY, "a" * 500):
            if value != "":
                self.fails(InvalidPlace, {"value": value}, rest, BC, "abc", value)
        self.sequence(rest, {"exchanges": BC, "question": "abc", "beginning": "a"}, [
            ({"question": "a" * 13}, InvalidWord, {}), ({"beginning": True}, InvalidPlace, {"value": True}),
        ])
        # TooMany is behind the errors of the parameters.
        self.fails(InvalidPlace, {"value": "cd"}, rest, ALL, SIXTY + "d", "cd")
        self.fails(InvalidPlace, {"value": "ba"}, rest, ALL, SIXTY + "d", "ba")
        self.fails(TooMany, {}, rest, ALL, SIXTY + "d", "ab")

    def test_what_is_told_is_new(self):
        self.tells_anew(lambda: beginnings(BC, "abc"))
        for action in self.of_question().values():
            self.tells_anew(lambda: action(BC, "abc"))


class LeapsTest(Case):
    def test_ordinary(self):
        self.assertEqual([("", "ac", "ac"), ("a", "b", "ab"), ("ac", "b", "abc")], leaps(BC, LOT, "abc"))
        self.assertEqual([], leaps(exchanges=BC, lot=Lot(), question="abc"))
        self.is_bool(True, does_settle(BC, LOT, "abc"))
        self.is_bool(False, does_settle(exchanges=Exchanges(), lot=LOT, question="abc"))
        self.assertEqual([("", "ac", "ac"), ("ac", "b", "abc")], way(exchanges=BC, lot=LOT, question="acb"))
        # Words of the lot that are like one another make leaps of their own.
        self.assertEqual([("", "bc", "bc"), ("", "cb", "bc")], leaps(BC, Lot(["bc", "cb"]), "cb"))
        self.assertEqual([("", "bc", "bc")], way(BC, Lot(["bc", "cb"]), "cb"))

    def test_against_the_definition(self):
        found = [0, 0]
        for exchanges, lot, question in drawn(820, 250):
            self.assertEqual(all_leaps(exchanges, lot, question), leaps(exchanges, lot, question))
            last = least_like(exchanges, question)
            met = reached(exchanges, lot, question)
            found[last in met] += 1
            self.is_bool(last in met, does_settle(exchanges, lot, question))
            if last not in met:
                self.fails(NotSettled, {"value": question}, way, exchanges, lot, question)
                continue
            steps = way(exchanges, lot, question)
            self.is_bool(True, is_way(exchanges, lot, question, steps))
            shortest = shortest_ways(exchanges, lot, question)
            if shortest:
                self.assertEqual(min(shortest), steps)
        self.assertGreater(min(found), 60)

    def test_without_exchanges_it_is_as_ever(self):
        for _, lot, question in drawn(821, 100):
            self.is_bool(is_settled(lot, question), does_settle(Exchanges(), lot, question))
            self.assertEqual([question[:at] for at in range(len(question) + 1)], beginnings(Exchanges(), question))
            if is_settled(lot, question):
                self.assertEqual(len(plan(lot, question)), len(way(Exchanges(), lot, question)))
            else:
                self.assertEqual([question[:place] for place in cut(lot, question)], rift(Exchanges(), lot, question))

    def test_steps_back(self):
        # Forth by ab, back by b, forth by bc.
        lot = Lot(["ab", "b", "bc"])
        self.assertEqual([("", "ab", "ab"), ("ab", "b", "a"), ("a", "bc", "abc")], way(Exchanges(), lot, "abc"))
        self.assertEqual([("", "ab", "ab"), ("ab", "b", "a"), ("a", "bc", "abc")], way(BC, lot, "acb"))

    def test_is_way(self):
        steps = way(BC, LOT, "abc")
        self.is_bool(True, is_way(exchanges=BC, lot=LOT, question="abc", value=steps))
        self.is_bool(True, is_way(BC, LOT, "acb", tuple(steps)))
        back = [steps[0], ("ac", "ac", ""), steps[0], steps[1]]
        self.is_bool(True, is_way(BC, LOT, "abc", back))
        # It may come to the last one again.
        self.is_bool(True, is_way(BC, LOT, "abc", [*steps, ("abc", "b", "ac"), ("ac", "b", "abc")]))
        for value in STRANGE + (steps[:1], steps[1:], steps[::-1], [list(step) for step in steps], [steps],
                                steps + steps, [("", "ac", "ca"), ("ca", "b", "abc")], [("", "ca", "ac"), steps[1]],
                                [*steps, steps[1]], [("", "ac", "ac"), ("ac", "b", "acb")], [("", "abc", "abc")],
                                [*steps, None], ANY, [ANY], [("", ANY, "abc")], [steps[0], ANY], {steps[0]: 1}, "abc",
                                [("", "ac"), ("ac", "b")],
                                [(*step, 0) for step in steps], [("", "b", "b"), ("b", "ac", "abc")],
                                [*back[:2]], [("ac", "b", "abc")]):
            self.is_bool(False, is_way(BC, LOT, "abc", value), value)
            self.is_bool(False, is_way(BC, Lot(), "abc", value), value)

    def test_the_sequence_of_the_errors(self):
        unsettled = ({"lot": Lot()}, NotSettled, {"value": "abc"})
        good = {"exchanges": BC, "lot": LOT, "question": "abc"}
        self.sequence(way, good, [({"question": "B"}, InvalidWord, {"value": "B"})])
        self.sequence(way, good, [unsettled])
        self.fails(TooMany, {}, way, ALL, Lot(), SIXTY + "d")
        self.fails(TooMany, {}, does_settle, ALL, Lot(), SIXTY + "d")
        self.tells_anew(lambda: leaps(BC, LOT, "abc"))
        self.tells_anew(lambda: way(BC, LOT, "abc"))
        self.leaves((BC, LOT, "abc", way(BC, LOT, "abc")), is_way)


class RiftTest(Case):
    def test_ordinary(self):
        lot = Lot(["ab", "bc"])
        self.assertEqual(["", "ab"], rift(Exchanges(), lot, "abc"))
        self.assertEqual(["", "ab"], rift(exchanges=BC, lot=Lot(["ab"]), question="acb"))
        self.is_bool(True, is_rift(exchanges=BC, lot=Lot(["ab"]), question="abc", value=["", "ab"]))
        self.is_bool(True, is_rift(BC, Lot(["ab"]), "abc", ("ab", "")))
        self.is_bool(True, is_rift(BC, Lot(["ab"]), "abc", ["ac", "", "ab"]))
        plain, crossed = apart(exchanges=Exchanges(), lot=Lot(), question="a")
        self.assertEqual([Graph(4, [(0, "a", 2, 0), (1, "a", 3, 0)]), Graph(4, [(0, "a", 3, 0), (1, "a", 2, 0)])],
                         [plain, crossed])

    def test_against_the_definition(self):
        found = 0
        for exchanges, lot, question in drawn(830, 200):
            met = reached(exchanges, lot, question)
            some = list(all_beginnings(exchanges, question))
            last = least_like(exchanges, question)
            if last in met:
                self.fails(Settled, {"value": question}, rift, exchanges, lot, question)
                self.fails(Settled, {"value": question}, apart, exchanges, lot, question)
                self.fails(Settled, {"value": question}, apart, exchanges, lot, question, [""])
            else:
                told_rift = rift(exchanges, lot, question)
                self.assertEqual([begin for begin in some if begin in met], told_rift)
                self.is_bool(True, is_rift(exchanges, lot, question, told_rift))
                found += 1
            every = all_leaps(exchanges, lot, question)
            for size in range(min(len(some), 6)):
                for value in itertools.islice(itertools.combinations(some, size), 10):
                    right = "" in value and last not in value and all((begin in value) == (end in value)
                                                                      for begin, _, end in every)
                    self.is_bool(right, is_rift(exchanges, lot, question, list(value)))
        self.assertGreater(found, 60)

    def test_is_rift_of_any_value(self):
        lot = Lot(["ab"])
        for value in STRANGE + (["", "ab", ""], ["ab"], ["", "abc"], ["", "ab", "abc"], ["", "ba"],
                                ["", "a", "ab", "z"], [""], {"": 1, "ab": 2}, "", "ab", [["", "ab"]], ["", None],
                                ["", ["ab"]], [0, 2], ANY,
                                ["", ANY], [ANY], ["", "ab", ANY], ["", "acb"], ("", "a", "a"), [False, "ab"],
                                ["", "ab", "AB"]):
            self.is_bool(False, is_rift(BC, lot, "abc", value), value)
        # A settled question has none, whatever is tried.
        for size in range(5):
            for value in itertools.combinations(beginnings(BC, "abc"), size):
                self.is_bool(False, is_rift(BC, LOT, "abc", value), value)

    def test_twins(self):
        found = 0
        for exchanges, lot, question in drawn(840, 150):
            if does_settle(exchanges, lot, question):
                continue
            found += 1
            some = beginnings(exchanges, question)
            met = rift(exchanges, lot, question)
            last = least_like(exchanges, question)
            outside = [begin for begin in some if begin not in met and begin != last]
            # All that steps do not lead to from the last one is a rift, too.
            far = [begin for begin in some if begin not in self.joined(exchanges, lot, question, last)]
            self.is_bool(True, is_rift(exchanges, lot, question, far))
            for chosen, twins in ((met, apart(exchanges, lot, question)), (met, apart(exchanges, lot, question, met)),
                                  (far, apart(exchanges, lot, question, far[::-1]))):
                self.check_twins(exchanges, lot, question, chosen, twins)
            if outside == []:
                self.assertEqual(met, far)
        self.assertGreater(found, 40)

    def joined(self, exchanges, lot, question, begin):
        """The beginnings that steps lead to from one of them."""
        met = {begin}
        while True:
            more = {end for start, _, end in all_steps(exchanges, lot, question) if start in met} - met
            if not more:
                return met
            met |= more

    def check_twins(self, exchanges, lot, question, chosen, twins):
        self.assertIs(tuple, type(twins))
        plain, crossed = twins
        some = beginnings(exchanges, question)
        ties = [[], []]
        for at, begin in enumerate(some):
            for letter in sorted(set(question)):
                behind = least_like(exchanges, begin + letter)
                if behind in some:
                    to = some.index(behind)
                    side = int((begin in chosen) != (behind in chosen))
                    for number, turned in ((0, 0), (1, side)):
                        ties[number].append((2 * at, letter, 2 * to + turned, 0))
                        ties[number].append((2 * at + 1, letter, 2 * to + 1 - turned, 0))
        self.assertEqual([Graph(2 * len(some), ties[0]), Graph(2 * len(some), ties[1])], [plain, crossed])
        self.is_bool(True, does_keep(exchanges, plain))
        self.is_bool(True, does_keep(exchanges, crossed))
        self.is_bool(True, is_parting(lot, question, twins, "whether"))
        self.assertTrue(is_plain(plain.ties() + crossed.ties()))

    def test_twins_of_60_beginnings(self):
        plain, crossed = apart(ALL, Lot(["ab"]), SIXTY)
        self.assertEqual([120, 120], [plain.nodes, crossed.nodes])
        self.is_bool(True, is_parting(Lot(["ab"]), SIXTY, (plain, crossed), "whether"))

    def test_errors(self):
        lot = Lot(["ab"])
        for value in STRANGE + (["ab"], ["", "abc"], "ab", ["", "ab", "ab"], {"": 1}, ANY, [ANY], ["", "ba"], 0):
            if value is not None:
                self.fails(InvalidCut, {"value": value}, apart, BC, lot, "abc", value)
        good = {"exchanges": BC, "lot": lot, "question": "abc", "rift": None}
        self.sequence(apart, good, [
            ({"question": "a b"}, InvalidWord, {}), ({"lot": LOT}, Settled, {"value": "abc"}),
            ({"rift": ["ab"]}, InvalidCut, {}),
        ])
        self.fails(TooMany, {}, apart, ALL, Lot(["a", "b", "c", "d"]), SIXTY + "d", 3)
        self.fails(TooMany, {}, rift, ALL, Lot(["a", "b", "c", "d"]), SIXTY + "d")
        self.tells_anew(lambda: rift(BC, lot, "abc"))
        self.tells_anew(lambda: apart(BC, lot, "abc"))
        self.leaves((BC, lot, "abc", ["ab", ""]), apart)
        self.leaves((BC, lot, "abc", ["ab", ""]), is_rift)


class ToldUnderTest(Case):
    def test_ordinary(self):
        relations = {"b": [(0, 1), (1, 1)], "ac": [(0, 0), (2, 1)]}
        self.assertEqual([(0, 1), (2, 1)], told_under(BC, LOT, "abc", 3, relations))
        self.assertEqual([(0, 1), (2, 1)],
                         told_under(exchanges=BC, lot=LOT, question="acb", nodes=3, kept=relations))
        # Back by b: all nodes whose b leads to nothing else.
        lot, steps = Lot(["ab", "b", "bc"]), {"ab": [(0, 1)], "b": [(2, 1)], "bc": [(2, 0)]}
        self.assertEqual(told(lot, "abc", 3, steps), told_under(Exchanges(), lot, "abc", 3, steps))

    def test_without_exchanges_it_is_as_ever(self):
        source = seeded(850)
        found = 0
        for _, lot, question in drawn(850, 150):
            if is_settled(lot, question):
                nodes = source.randint(1, 4)
                relations = {word: some_relation(source, nodes, 8) for word in lot}
                steps = [(len(begin), word, len(end)) for begin, word, end in way(Exchanges(), lot, question)]
                self.assertEqual(told(lot, question, nodes, relations, steps),
                                 told_under(Exchanges(), lot, question, nodes, relations))
                found += 1
        self.assertGreater(found, 30)

    def test_graphs_that_keep_the_exchanges(self):
        source = seeded(851)
        found = [0, 0]
        for exchanges, lot, question in drawn(851, 200):
            letters = "".join(sorted(set(question + lot.letters())))
            if len(letters) > 3 or not does_settle(exchanges, lot, question):
                continue
            nodes, ties = grid(source, exchanges, letters)
            if nodes > 64 or len(ties) > 1000:
                continue
            graph = Graph(nodes, ties)
            self.is_bool(True, does_keep(exchanges, graph))
            expected = pairs(graph, question)
            self.assertEqual(expected, told_under(exchanges, lot, question, nodes, kept(graph, lot, "whether")))
            found[0] += len(expected) > 0
            found[1] += not is_settled(lot, question)
        self.assertGreater(found[0], 20)
        self.assertGreater(found[1], 2)

    def test_errors(self):
        relations = {"b": [(0, 1)], "ac": []}
        self.fails_for_all(InvalidNodes, WRONG_NODES, lambda value: told_under(BC, LOT, "abc", value, relations))
        for value in STRANGE + ({"b": []}, {**relations, "c": []}, {"b": [(0, 3)], "ac": []}, {"b": [], "ac": None},
                                ANY, {"b": [(1, 0), (0, 1)], "ac": []}, {"b": [[0, 1]], "ac": []},
                                [("b", []), ("ac", [])]):
            self.fails(InvalidKept, {"value": value}, told_under, BC, LOT, "abc", 3, value)
        good = {"exchanges": BC, "lot": LOT, "question": "abc", "nodes": 3, "kept": relations}
        self.sequence(told_under, good, [
            ({"question": 0}, InvalidWord, {"value": 0}), ({"nodes": True}, InvalidNodes, {"value": True}),
            ({"kept": {}}, InvalidKept, {}), ({"exchanges": Exchanges()}, NotSettled, {"value": "abc"}),
        ])
        large = {word: [] for word in LOT}
        self.fails(InvalidKept, {}, told_under, ALL, LOT, SIXTY + "d", 3, {})
        self.fails(TooMany, {}, told_under, ALL, LOT, SIXTY + "d", 3, large)
        self.fails(NotSettled, {"value": "abc"}, told_under, BC, Lot(), "abc", 3, {})
        self.tells_anew(lambda: told_under(BC, LOT, "abc", 3, relations))
        self.leaves((BC, LOT, "abc", 3, {"b": [(0, 1)], "ac": [(1, 2)]}), told_under)


if __name__ == "__main__":
    unittest.main()
