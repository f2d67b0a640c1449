"""walksback.twins: twins of cuts, partings, and where the answers of two graphs are unlike."""

import itertools
import unittest

from support import STRANGE, Case, seeded, some_ties, some_word, some_words
from walksback.answers import answer, pairs
from walksback.errors import InvalidCut, InvalidTelling, InvalidWord, OtherNodes, Settled
from walksback.graphs import Graph
from walksback.lots import Lot
from walksback.places import bridges
from walksback.settled import cut, cut_count, greatest_cut, is_cut, is_settled
from walksback.twins import first_apart, is_parting, twins, unlike_words

LOT = Lot(["ab", "b", "bc"])
LESS = Lot(["ab", "bc"])
TELLINGS = ("whether", "many", "cheap")
WRONG_QUESTIONS = STRANGE + ("a" * 25, 0, 1, ["a"], ("a", "b"), Lot(["a"]))
WRONG_TELLINGS = STRANGE + ("Whether", "whether ", "WHETHER", "manycheap", ["whether"], ("many",), 0, 1, LOT, "a")


def all_cuts(lot, question):
    """All cuts: all sets of places are tried."""
    size = len(question)
    return [[0, *some] for number in range(size) for some in itertools.combinations(range(1, size), number)
            if all((begin in (0, *some)) == (end in (0, *some)) for begin, end, _ in bridges(lot, question))]


def plain_ties(question):
    """The ties of the plain one of twins, sorted."""
    return sorted([(2 * i, question[i], 2 * i + 2, 0) for i in range(len(question))]
                  + [(2 * i + 1, question[i], 2 * i + 3, 0) for i in range(len(question))])


def crossed_ties(question, places):
    """The ties of the crossed one of twins, sorted."""
    told = []
    for i, letter in enumerate(question):
        if len({i, i + 1} & set(places)) == 1:
            told += [(2 * i, letter, 2 * i + 3, 0), (2 * i + 1, letter, 2 * i + 2, 0)]
        else:
            told += [(2 * i, letter, 2 * i + 2, 0), (2 * i + 1, letter, 2 * i + 3, 0)]
    return sorted(told)


def drawn(number, rounds=60, most=6):
    """Lots and short questions, drawn from a seeded source."""
    source = seeded(number)
    for turn in range(rounds):
        letters = "a" if turn % 6 == 0 else "ab" if turn % 2 else "abc"
        yield Lot(some_words(source, letters, 4, 4)), some_word(source, letters, most)
    yield Lot(), "a"
    yield Lot(), "abab"
    yield LESS, "abc"


class TwinsTest(Case):
    def test_ordinary(self):
        plain, crossed = twins(LESS, "abc")
        self.assertEqual(Graph(8, plain_ties("abc")), plain)
        self.assertEqual([(0, "a", 3, 0), (1, "a", 2, 0), (2, "b", 5, 0), (3, "b", 4, 0), (4, "c", 7, 0),
                          (5, "c", 6, 0)], crossed.ties())
        self.assertEqual([[(0, 6), (1, 7)], [(0, 7), (1, 6)]], [pairs(plain, "abc"), pairs(crossed, "abc")])
        self.assertEqual((plain, crossed), twins(lot=LESS, question="abc", cut=[0, 2]))
        self.assertEqual((plain, crossed), twins(LESS, "abc", (0, 2)))
        self.assertEqual((plain, crossed), twins(LESS, "abc", None))
        self.assertIs(tuple, type(twins(LESS, "abc")))

    def test_the_question_of_one_letter(self):
        plain, crossed = twins(Lot(), "a")
        self.assertEqual([Graph(4, [(0, "a", 2, 0), (1, "a", 3, 0)]), Graph(4, [(0, "a", 3, 0), (1, "a", 2, 0)])],
                         [plain, crossed])

    def test_all_cuts_tie_by_tie(self):
        for lot, question in drawn(300):
            cuts = all_cuts(lot, question)
            self.assertEqual(cut_count(lot, question), len(cuts))
            for places in cuts:
                plain, crossed = twins(lot, question, places)
                nodes = 2 * (len(question) + 1)
                self.assertEqual([nodes, nodes], [plain.nodes, crossed.nodes])
                self.assertEqual(plain_ties(question), plain.ties())
                self.assertEqual(crossed_ties(question, places), crossed.ties())
            if cuts:
                fewest = min(cuts, key=len)
                self.assertEqual(fewest, cut(lot, question))
                self.assertEqual(twins(lot, question, fewest), twins(lot, question))
                self.assertEqual(max(cuts, key=len), greatest_cut(lot, question))

    def test_in_each_telling_the_same_kept_answers_and_unlike_ones_of_the_question(self):
        for lot, question in drawn(301, 30):
            for places in all_cuts(lot, question):
                plain, crossed = twins(lot, question, places)
                for telling in TELLINGS:
                    for word in lot:
                        self.assertEqual(answer(plain, word, telling), answer(crossed, word, telling))
                    self.assertNotEqual(answer(plain, question, telling), answer(crossed, question, telling))
                    self.is_bool(True, is_parting(lot, question, (plain, crossed), telling))
                    self.is_bool(True, is_parting(lot, question, (crossed, plain), telling))

    def test_questions_of_24_letters(self):
        question = "abcd" * 6
        lot = Lot(["ab", "bc"])
        self.is_bool(True, is_cut(lot, question, [0, 1, 2, 3]))
        for places in (None, [0, 2], greatest_cut(lot, question), [0, 1, 2, 3]):
            plain, crossed = twins(lot, question, places)
            self.assertEqual([50, 48, 48], [plain.nodes, len(plain), len(crossed)])
            self.assertEqual(plain_ties(question), plain.ties())
            self.assertEqual(crossed_ties(question, places or cut(lot, question)), crossed.ties())
            self.assertTrue(all(is_parting(lot, question, (plain, crossed), telling) for telling in TELLINGS))

    def test_settled_ahead_of_invalid_cut(self):
        self.fails(Settled, {"value": "abc"}, twins, LOT, "abc")
        self.fails(Settled, {"value": "abc"}, twins, LOT, "abc", [0, 2])
        for value in STRANGE + ([0],):
            self.fails(Settled, {"value": "abc"}, twins, LOT, "abc", value)

    def test_wrong_questions(self):
        self.fails_for_all(InvalidWord, WRONG_QUESTIONS, lambda value: twins(LOT, value))
        self.fails_for_all(InvalidWord, WRONG_QUESTIONS, lambda value: twins(LESS, value, [0, 9]))

    def test_wrong_cuts(self):
        wrong = ([2, 0], [0], [0, 1], [0, 2, 3], [0, 2, 2], [2], [0, 1, 2], [False, 2], [0, "2"], [0, None], {0: 1},
                 [0, 2, 4], [[0, 2]], "02", 0, 2, LOT, Graph(2), {0: 0, 2: 2}, [0, [2]])
        wrong = [value for value in STRANGE if value is not None] + list(wrong)
        self.fails_for_all(InvalidCut, wrong, lambda value: twins(LESS, "abc", value))

    def test_the_sequence_of_the_errors(self):
        self.sequence(twins, {"lot": LESS, "question": "abc", "cut": [0, 2]}, [
            ({"question": ""}, InvalidWord, {"value": ""}),
            ({"lot": LOT}, Settled, {"value": "abc"}),
            ({"cut": [0]}, InvalidCut, {}),
        ])

    def test_what_is_passed_stays(self):
        self.leaves((LESS, "abc", [0, 2]), twins)
        self.assertEqual(twins(LESS, "abc"), twins(LESS, "abc"))


class IsPartingTest(Case):
    def test_ordinary(self):
        told = twins(LESS, "abc")
        self.is_bool(True, is_parting(lot=LESS, question="abc", value=told, telling="many"))
        self.is_bool(False, is_parting(LOT, "abc", told, "many"))
        self.is_bool(False, is_parting(LESS, "ab", told, "many"))
        self.is_bool(False, is_parting(LESS, "abc", (told[0], told[0]), "many"))

    def test_against_the_definition(self):
        source = seeded(302)
        found = {True: 0, False: 0}
        for turn in range(400):
            lot = Lot(some_words(source, "ab", 2, 2))
            question = some_word(source, "ab", 3)
            nodes = source.randint(1, 3)
            one = Graph(nodes, some_ties(source, nodes, "ab", 6))
            other = Graph(nodes, some_ties(source, nodes, "ab", 6))
            if turn % 2 and len(one):
                tie = source.choice(one.ties())
                other = one + (*tie[:3], tie[3] + 1 if tie[3] < 1000 else 0) if turn % 4 == 1 else one - tie
            for telling in TELLINGS:
                right = (all(answer(one, word, telling) == answer(other, word, telling) for word in lot)
                         and answer(one, question, telling) != answer(other, question, telling))
                found[right] += 1
                self.is_bool(right, is_parting(lot, question, (one, other), telling))
        self.assertGreater(min(found.values()), 100)

    def test_each_telling_of_its_own(self):
        # With one way or with two of them: only "many" is parted; with another cost: only "cheap".
        one = Graph(4, [(0, "a", 1, 0), (1, "b", 2, 0), (0, "a", 3, 0), (3, "b", 2, 0)])
        other = one - (3, "b", 2, 0)
        dear = one + (1, "b", 2, 5) + (3, "b", 2, 5)
        told = [[is_parting(Lot(["a"]), "ab", pair, telling) for telling in TELLINGS]
                for pair in ((one, other), (one, dear))]
        self.assertEqual([[False, True, False], [False, False, True]], told)

    def test_graphs_with_one_thing_otherwise(self):
        plain, crossed = twins(LESS, "abc")
        for tie in crossed:
            less = crossed - tie
            self.is_bool(False, is_parting(LESS, "abc", (plain, less), "whether"), tie)
        # Ties of letters that no word has part nothing and join nothing.
        more = crossed + (0, "z", 1, 4)
        self.is_bool(True, is_parting(LESS, "abc", (plain, more), "cheap"))

    def test_unlike_numbers_of_nodes(self):
        plain, crossed = twins(LESS, "abc")
        wider = Graph(9, crossed.ties())
        for telling in TELLINGS:
            self.is_bool(False, is_parting(LESS, "abc", (plain, wider), telling))
            self.is_bool(False, is_parting(Lot(), "abc", (Graph(1), Graph(2, [(0, "a", 1, 0)])), telling))
        self.is_bool(False, is_parting(Lot(), "a", (Graph(1, [(0, "a", 0, 0)]), Graph(2, [(0, "a", 1, 0)])), "whether"))

    def test_any_value(self):
        plain, crossed = twins(LESS, "abc")
        wrong = ([plain, crossed], (plain,), (plain, crossed, plain), (plain, None), (None, crossed), plain, crossed,
                 (plain, crossed.ties()), ((plain, crossed),), {plain.nodes: crossed}, (plain, LOT), (8, 8),
                 (repr(plain), repr(crossed)), "twins", 0, (crossed, "cut"), LOT)
        for value in STRANGE + wrong:
            for telling in TELLINGS:
                self.is_bool(False, is_parting(LESS, "abc", value, telling), value)

    def test_great_graphs(self):
        source = seeded(303)
        ties = sorted({(source.randrange(120), "a", source.randrange(120), source.randint(0, 1000)): 1
                       for _ in range(1500)})
        one = Graph(120, [tie for at, tie in enumerate(ties) if at == 0 or tie[:3] != ties[at - 1][:3]][:1000])
        other = one - one.ties()[17]
        for telling in TELLINGS:
            self.is_bool(False, is_parting(Lot(["a"]), "aaa", (one, other), telling))
            self.is_bool(False, is_parting(Lot(["a"]), "aaa", (one, one), telling))

    def test_errors(self):
        told = twins(LESS, "abc")
        self.fails_for_all(InvalidWord, WRONG_QUESTIONS, lambda value: is_parting(LESS, value, told, "many"))
        self.fails_for_all(InvalidTelling, WRONG_TELLINGS, lambda value: is_parting(LESS, "abc", told, value))
        self.fails_for_all(InvalidTelling, WRONG_TELLINGS, lambda value: is_parting(LESS, "abc", None, value))
        self.sequence(is_parting, {"lot": LESS, "question": "abc", "value": told, "telling": "many"}, [
            ({"question": None}, InvalidWord, {"value": None}),
            ({"telling": ""}, InvalidTelling, {"value": ""}),
        ])
        self.leaves((LESS, "abc", told, "many"), is_parting)


class FirstApartTest(Case):
    def test_ordinary(self):
        plain, crossed = twins(LESS, "abc")
        self.assertEqual((0, 6), first_apart(plain, crossed, "abc", "whether"))
        self.assertEqual((0, 6), first_apart(one=plain, other=crossed, word="abc", telling="many"))
        self.assertIs(None, first_apart(plain, crossed, "ab", "cheap"))
        self.assertEqual((2, 4), first_apart(plain, crossed, "b", "cheap"))

    def test_against_all_pairs(self):
        source = seeded(304)
        found = 0
        for _ in range(200):
            nodes = source.randint(1, 4)
            one = Graph(nodes, some_ties(source, nodes, "ab", 8))
            other = Graph(nodes, some_ties(source, nodes, "ab", 8))
            word = some_word(source, "ab", 4)
            for telling in TELLINGS:
                first, second = answer(one, word, telling), answer(other, word, telling)
                if telling == "whether":
                    apart = [(x, y) for x in range(nodes) for y in range(nodes)
                             if ((x, y) in first) != ((x, y) in second)]
                else:
                    apart = [(x, y) for x in range(nodes) for y in range(nodes) if first[x][y] != second[x][y]]
                told = first_apart(one, other, word, telling)
                self.assertEqual(apart[0] if apart else None, told)
                self.assertEqual(told, first_apart(other, one, word, telling))
                found += bool(apart)
        self.assertGreater(found, 100)

    def test_errors(self):
        one, other = Graph(2), Graph(3)
        self.fails(OtherNodes, {"one": 2, "other": 3}, first_apart, one, other, "a", "many")
        self.fails(OtherNodes, {"one": 3, "other": 2}, first_apart, other, one, "a", "cheap")
        wrong = STRANGE + ("a" * 25, 0, ["a"], LOT)
        self.fails_for_all(InvalidWord, wrong, lambda value: first_apart(one, other, value, "x"))
        self.fails_for_all(InvalidTelling, WRONG_TELLINGS, lambda value: first_apart(one, other, "a", value))
        self.fails_for_all(InvalidTelling, WRONG_TELLINGS, lambda value: first_apart(one, one, "a", value))
        self.assertIs(None, first_apart(one, one, "a" * 24, "many"))
        self.sequence(first_apart, {"one": one, "other": one, "word": "a", "telling": "many"}, [
            ({"word": "A"}, InvalidWord, {"value": "A"}),
            ({"telling": "most"}, InvalidTelling, {"value": "most"}),
            ({"other": other}, OtherNodes, {"one": 2, "other": 3}),
        ])


class UnlikeWordsTest(Case):
    def test_ordinary(self):
        plain, crossed = twins(LESS, "abc")
        more = Lot(["c", "abc", "b", "ab", "bc", "z"])
        self.assertEqual(["b", "c", "abc"], unlike_words(more, plain, crossed, "whether"))
        self.assertEqual([], unlike_words(lot=LESS, one=plain, other=crossed, telling="many"))
        self.assertEqual([], unlike_words(Lot(), plain, Graph(8), "many"))
        self.assertEqual(["b", "ab", "bc"], unlike_words(LOT, plain, Graph(8), "cheap"))

    def test_against_the_answers(self):
        source = seeded(305)
        for _ in range(120):
            nodes = source.randint(1, 3)
            one = Graph(nodes, some_ties(source, nodes, "ab", 6))
            other = Graph(nodes, some_ties(source, nodes, "ab", 6))
            lot = Lot(some_words(source, "ab", 6, 3))
            for telling in TELLINGS:
                expected = [word for word in sorted(lot, key=lambda word: (len(word), word))
                            if answer(one, word, telling) != answer(other, word, telling)]
                self.assertEqual(expected, unlike_words(lot, one, other, telling))

    def test_errors(self):
        one, other = Graph(2), Graph(3)
        self.fails(OtherNodes, {"one": 2, "other": 3}, unlike_words, LOT, one, other, "many")
        self.fails(OtherNodes, {"one": 3, "other": 2}, unlike_words, Lot(), other, one, "many")
        self.fails_for_all(InvalidTelling, WRONG_TELLINGS, lambda value: unlike_words(LOT, one, other, value))
        self.fails_for_all(InvalidTelling, WRONG_TELLINGS, lambda value: unlike_words(Lot(), one, one, value))

    def test_what_is_told_is_new(self):
        plain, crossed = twins(LESS, "abc")
        self.tells_anew(lambda: unlike_words(Lot(["a", "b"]), plain, crossed, "whether"))
        self.leaves((LOT, plain, crossed, "many"), unlike_words)


class SettledOrPartedTest(Case):
    def test_a_plan_or_twins_never_both(self):
        for lot, question in drawn(306, 100):
            if is_settled(lot, question):
                self.fails(Settled, {"value": question}, twins, lot, question)
            else:
                self.assertTrue(all(is_parting(lot, question, twins(lot, question), telling) for telling in TELLINGS))


if __name__ == "__main__":
    unittest.main()
