"""walksback.choosing: choices by price, the cheapest one, least ones, trees that show that none is cheaper."""

import copy
import itertools
import unittest
from unittest.mock import ANY

from support import STRANGE, Case, is_plain, seeded, some_word, some_words
from test_base import joined
from walksback.choosing import cheapest, is_choice, is_tree, least_choices, least_price, tree
from walksback.errors import InvalidNumber, InvalidPrices, InvalidQuestions, TooMany
from walksback.lots import Lot

PRICES = {"a": 3, "b": 1, "c": 4, "bc": 2, "abc": 5}
KEPT = Lot(["ab"])
TREE = (0, [0, 2], [("b", (0, [0, 1, 2], []))])
# {} are prices of no words, {"a": 1} those of one.
WRONG_PRICES = tuple(value for value in STRANGE if value not in ({}, {"a": 1})) + (
    {"a": True}, {"a": False}, {"a": -1}, {"a": None}, {"a": "1"}, {"a": [1]}, {"a": 1, "B": 1}, {"": 1}, {"a b": 1},
    {"a" * 13: 1}, {0: 1}, {False: 1}, {("a",): 1}, {b"a": 1}, {"a": ANY}, {"a": 1, "b": -1}, [("a", 1)], ["a"],
    Lot(["a"]), ANY,
)
WRONG_NUMBERS = tuple(value for value in STRANGE if isinstance(value, bool) or not isinstance(value, int)
                      or value < 0) + ("1", [1], (1,), {1: 1}, Lot(), ANY)
# What is no list, or none with an element, and lists with the position of the first element that is wrong.
WRONG_QUESTIONS = (
    *[(value, None) for value in STRANGE if not (isinstance(value, (list, tuple)) and value)], ("abc", None),
    ({"abc": 1}, None), (Lot(["abc"]), None), (ANY, None), ([""], 0), (["abc", "A"], 1), (("abc", "abc"), 1),
    (["a", "b", "a", "B"], 2), ([None], 0), ([["abc"]], 0), ([("a",)], 0), (["abc", 3], 1), ([ANY], 0),
    (["a" * 24, "a" * 25], 1), (["a", "b", "c", "d", "e", "a"], 5), ([True], 0), ([b"a"], 0),
)


def in_sequence(words):
    return sorted(words, key=lambda word: (len(word), word))


def all_choices(lot, prices, questions):
    """All choices as lists of positions, by trying all of them, with what they cost."""
    words = in_sequence(prices)
    told = []
    for size in range(len(words) + 1):
        for positions in itertools.combinations(range(len(words)), size):
            some = [words[at] for at in positions]
            if all(joined([*lot, *some], question) for question in questions):
                told.append((list(positions), some, sum(prices[word] for word in some)))
    return told


def is_right_tree(lot, prices, questions, number, value, taken=(), left=()):
    """Whether a value is a tree, word by word as the document says it."""
    if type(value) is not tuple or len(value) != 3:
        return False
    position, cut, branches = value
    if type(position) is not int or position not in range(len(questions)):
        return False
    question = questions[position]
    if type(cut) not in (list, tuple) or any(type(place) is not int for place in cut):
        return False
    if list(cut) != sorted(set(cut)) or 0 not in cut or not all(0 <= place < len(question) for place in cut):
        return False

    def apart(word):
        return any(question.startswith(word, at) and (at in cut) != (at + len(word) in cut)
                   for at in range(len(question)) if at + len(word) <= len(question))

    if any(apart(word) for word in [*lot, *taken]):
        return False
    words = [word for word in in_sequence(prices) if word not in taken and word not in left and apart(word)
             and sum(prices[other] for other in (*taken, word)) <= number]
    if type(branches) not in (list, tuple) or len(branches) != len(words):
        return False
    for at, (word, branch) in enumerate(zip(words, branches)):
        if type(branch) is not tuple or len(branch) != 2 or type(branch[0]) is not str or branch[0] != word:
            return False
        if not is_right_tree(lot, prices, questions, number, branch[1], (*taken, word), (*left, *words[:at])):
            return False
    return True


def bent(value):
    """Trees that are like this one but for one part of it."""
    position, cut, branches = value
    for other in (position + 1, -1, None, True, False, "0", [position], 0, 1):
        yield other, cut, branches
    for other in (cut[1:], cut[:-1], [*cut, cut[-1] + 1], [*cut, cut[-1]], cut[::-1], tuple(cut), None, {}, "0", 0,
                  [0], [str(place) for place in cut], [False, *cut[1:]], [*cut, 24], [*cut, None]):
        yield position, other, branches
    for other in (branches[1:], branches[:-1], branches[::-1], branches + branches[-1:], tuple(branches), None, {}, "",
                  [*branches, None], [*branches, ("z", value)], [list(branch) for branch in branches],
                  [(*branch, None) for branch in branches], [branch[:1] for branch in branches],
                  [branch[1] for branch in branches], [(branch[1], branch[0]) for branch in branches],
                  [("zz", branch[1]) for branch in branches], [(ANY, branch[1]) for branch in branches],
                  [(None, branch[1]) for branch in branches], [(branch[0], None) for branch in branches],
                  [(branch[0], value) for branch in branches], [(word + "a", below) for word, below in branches]):
        yield position, cut, other
    yield [position, cut, branches]
    yield (position, cut)
    yield (position, cut, branches, None)
    for at, (word, below) in enumerate(branches):
        for other in bent(below):
            yield position, cut, [*branches[:at], (word, other), *branches[at + 1:]]


def drawn(number, rounds):
    """Tuples (lot, prices, questions), drawn from a seeded source."""
    source = seeded(number)
    for turn in range(rounds):
        letters = "a" if turn % 5 == 0 else "ab" if turn % 5 < 4 else "abc"
        questions = sorted({some_word(source, letters, 7) for _ in range(source.randint(1, 3))})
        source.shuffle(questions)
        words = set(some_words(source, letters, 3, 3))
        for question in questions:
            begin = source.randrange(len(question))
            words.add(question[begin:begin + source.randint(1, 4)])
        shuffled = sorted(words)
        source.shuffle(shuffled)
        prices = {word: source.choice((0, 0, 1, 1, 2, 3, 5, 10 ** 25)) for word in shuffled[:5]}
        yield Lot(some_words(source, letters, 2, 3)), prices, questions


class ChoiceTest(Case):
    def test_ordinary(self):
        self.assertEqual(3, least_price(KEPT, PRICES, ["abc"]))
        self.assertEqual(Lot(["b", "bc"]), cheapest(KEPT, PRICES, ["abc"]))
        self.assertEqual([["c"], ["abc"], ["a", "bc"], ["b", "bc"]],
                         [some.words() for some in least_choices(KEPT, PRICES, ["abc"])])
        self.assertEqual(3, least_price(lot=KEPT, prices=PRICES, questions=("abc",)))
        self.assertEqual(Lot(["b", "bc"]), cheapest(lot=KEPT, prices=PRICES, questions=["abc"]))
        self.assertEqual(4, len(least_choices(lot=KEPT, prices=PRICES, questions=["abc"])))
        self.is_bool(True, is_choice(lot=KEPT, prices=PRICES, questions=["abc"], value=Lot(["c"])))
        self.is_bool(False, is_choice(KEPT, PRICES, ["abc"], Lot(["b"])))
        self.is_bool(True, is_choice(KEPT, PRICES, ["abc"], Lot(list(PRICES))))

    def test_against_all_choices(self):
        found = [0, 0, 0]
        for lot, prices, questions in drawn(610, 250):
            expected = all_choices(lot, prices, questions)
            told = least_price(lot, prices, questions)
            best = cheapest(lot, prices, questions)
            least = [some for _, some, _ in expected
                     if not any(set(other) < set(some) for _, other, _ in expected)]
            self.assertEqual(least, [some.words() for some in least_choices(lot, prices, questions)])
            for size in range(len(prices) + 1):
                for some in itertools.combinations(prices, size):
                    self.is_bool(set(some) in [set(other) for _, other, _ in expected],
                                 is_choice(lot, prices, questions, Lot(some)))
            if not expected:
                found[0] += 1
                self.assertEqual([None, None], [told, best])
                continue
            positions, some, price = min(expected, key=lambda row: (row[2], len(row[0]), row[0]))
            self.assertEqual([price, some], [told, best.words()])
            self.assertTrue(is_plain([told]))
            self.assertIs(Lot, type(best))
            found[1] += len(least) > 1
            found[2] += sum(row[2] == price for row in expected) > 1
        self.assertGreater(min(found), 10)

    def test_prices_of_0_and_equal_prices(self):
        # Of those of the least price the one with fewer words, then the one with the lesser positions.
        self.assertEqual(["c"], cheapest(KEPT, {"a": 0, "b": 0, "c": 0, "bc": 0}, ["abc"]).words())
        self.assertEqual(["a", "bc"], cheapest(KEPT, {"bc": 1, "b": 1, "a": 1}, ["abc"]).words())
        self.assertEqual(["a"], cheapest(Lot(), {"aaa": 0, "aa": 0, "a": 0}, ["aaaaaa"]).words())
        self.assertEqual(["aaa"], cheapest(Lot(), {"aaa": 0, "aa": 1, "a": 7}, ["aaaaaa"]).words())
        # Positions count, not words as Python compares them: b stands ahead of aa.
        either = Lot(["cb", "aac"])
        self.assertEqual(["b"], cheapest(either, {"aa": 2, "b": 2}, ["aacb"]).words())
        self.assertEqual([["b"], ["aa"]],
                         [some.words() for some in least_choices(either, {"aa": 2, "b": 2}, ["aacb"])])
        self.assertEqual(["aa"], cheapest(either, {"aa": 1, "b": 2}, ["aacb"]).words())
        self.assertEqual(0, least_price(KEPT, {"c": 0}, ["abc"]))
        self.assertEqual(10 ** 29, least_price(KEPT, {"c": 10 ** 29}, ["abc"]))

    def test_choices_of_as_many_words_by_positions(self):
        # The positions: b 0, z 1, aa 2; as Python compares words, aa would be ahead.
        either = Lot(["cb", "aac"])
        told = least_choices(either, {"aa": 1, "z": 1, "b": 1}, ["aacbz"])
        self.assertEqual([["b", "z"], ["z", "aa"]], [some.words() for some in told])
        self.assertEqual(["b", "z"], cheapest(either, {"aa": 1, "z": 1, "b": 1}, ["aacbz"]).words())

    def test_words_of_the_lot_among_the_prices(self):
        self.assertEqual([0, Lot()], [least_price(KEPT, {"ab": 5}, ["ab"]), cheapest(KEPT, {"ab": 5}, ["ab"])])
        self.assertEqual([Lot()], least_choices(KEPT, {"ab": 5}, ["ab"]))
        self.is_bool(True, is_choice(KEPT, {"ab": 5}, ["ab"], Lot(["ab"])))
        self.is_bool(False, is_choice(KEPT, {"ab": 5}, ["abc"], Lot(["ab"])))
        self.assertEqual([["c"]], [some.words() for some in least_choices(KEPT, {"ab": 0, "c": 1}, ["abc"])])

    def test_no_choice_and_a_choice_without_words(self):
        for prices in ({}, {"b": 1}, {"b": 0, "z": 0}):
            self.assertEqual([None, None, []], [least_price(KEPT, prices, ["abc"]), cheapest(KEPT, prices, ["abc"]),
                                                least_choices(KEPT, prices, ["abc"])])
            self.is_bool(False, is_choice(KEPT, prices, ["abc"], Lot()))
            self.assertEqual([0, Lot(), [Lot()]], [least_price(KEPT, prices, ["ab"]), cheapest(KEPT, prices, ["ab"]),
                                                   least_choices(KEPT, prices, ["ab"])])
            self.is_bool(True, is_choice(KEPT, prices, ["abab"], Lot()))

    def test_each_of_the_questions_is_settled(self):
        prices = {"a": 1, "b": 2, "c": 4, "ab": 1}
        self.assertEqual(["a"], cheapest(Lot(), prices, ["a", "aa"]).words())
        self.assertEqual(["a", "b"], cheapest(Lot(), prices, ["a", "b"]).words())
        self.assertEqual(["a", "b", "c"], cheapest(Lot(), prices, ["a", "ab", "b", "c"]).words())
        self.assertEqual(["ab"], cheapest(Lot(), prices, ["ab"]).words())

    def test_ten_words_and_eleven(self):
        ten = {letter: 1 for letter in "abcdefghij"}
        self.assertEqual(10, least_price(Lot(), ten, ["abcdefghij"]))
        self.assertEqual(list("abcdefghij"), cheapest(Lot(), ten, ["abcdefghij"]).words())
        self.assertEqual(1, len(least_choices(Lot(), ten, ["jihgfedcba", "abcdefghij"])))
        self.is_bool(True, is_choice(Lot(), ten, ["abcdefghij"], Lot(list(ten))))
        self.is_bool(False, is_choice(Lot(), ten, ["abcdefghij"], Lot(list(ten)[:9])))
        for action in self.actions():
            self.fails(TooMany, {"what": "words", "limit": 10}, action, Lot(), {**ten, "k": 1}, ["a"])

    def test_four_questions_and_five(self):
        four = ["a", "aa", "aaa", "aaaa"]
        self.assertEqual(1, least_price(Lot(), {"a": 1, "aa": 0}, four))
        for action in self.actions():
            action(Lot(), {"a": 1}, four)
            self.fails(TooMany, {"what": "questions", "limit": 4}, action, Lot(), {"a": 1}, [*four, "b"])

    def test_beside_a_full_lot(self):
        full = Lot([letter + "z" for letter in "abcdefghij"])
        self.assertEqual(["x"], cheapest(full, {"x": 2, "az": 0, "xx": 1}, ["azxbz"]).words())
        self.assertEqual(["x", "y"], cheapest(full, {"x": 2, "y": 0, "xx": 1}, ["azxy"]).words())
        self.is_bool(True, is_choice(full, {"x": 2, "y": 0}, ["xyaz"], Lot(["x", "y"])))
        self.assertEqual((0, [0], []), tree(full, {"x": 2}, ["x"], 1))

    def test_words_of_twelve_letters_and_questions_of_24(self):
        prices = {"a" * 12: 1, "a" * 11: 1}
        self.assertEqual(["a" * 12], cheapest(Lot(), prices, ["a" * 24]).words())
        self.assertEqual(["a" * 11, "a" * 12], cheapest(Lot(), prices, ["a" * 24, "a" * 23]).words())

    def test_is_choice_of_any_value(self):
        for value in STRANGE + (["c"], ("c",), "c", {"c": 1}, {"c": 4}, ANY, Lot(["z"]), Lot(["c", "z"]), Lot(["ab"]),
                                Lot(["c", "ab"]), 0, 1):
            self.is_bool(False, is_choice(KEPT, PRICES, ["abc"], value), value)

    def actions(self):
        """All functions, called with a lot, prices and questions."""
        return (least_price, cheapest, least_choices, lambda *three: is_choice(*three, Lot()),
                lambda *three: tree(*three, 2), lambda *three: is_tree(*three, 2, TREE))

    def test_errors(self):
        for action in self.actions():
            self.fails_for_all(InvalidPrices, WRONG_PRICES, lambda value: action(KEPT, value, ["abc"]))
            for value, position in WRONG_QUESTIONS:
                self.fails(InvalidQuestions, {"position": position}, action, KEPT, PRICES, value)
        for number in WRONG_NUMBERS:
            self.fails(InvalidNumber, {"value": number}, tree, KEPT, PRICES, ["abc"], number)
            self.fails(InvalidNumber, {"value": number}, is_tree, KEPT, PRICES, ["abc"], number, TREE)

    def test_the_sequence_of_the_errors(self):
        eleven = {letter: 1 for letter in "abcdefghijk"}
        wrong = [
            ({"prices": {"a": -1}}, InvalidPrices, {}),
            ({"questions": ["abc", ""]}, InvalidQuestions, {"position": 1}),
            ({"number": True}, InvalidNumber, {"value": True}),
        ]
        good = {"lot": KEPT, "prices": PRICES, "questions": ["abc"]}
        many = [({"prices": eleven}, TooMany, {"what": "words", "limit": 10}),
                ({"questions": list("abcde")}, TooMany, {"what": "questions", "limit": 4})]
        for action in (least_price, cheapest, least_choices):
            self.sequence(action, good, wrong[:2])
            self.sequence(action, good, many)
        self.sequence(is_choice, {**good, "value": Lot()}, wrong[:2])
        self.sequence(tree, {**good, "number": 2}, wrong)
        self.sequence(is_tree, {**good, "number": 2, "value": None}, wrong)
        # TooMany is behind the errors of all parameters.
        self.sequence(least_price, good, [wrong[1], many[0]])
        self.sequence(least_price, good, [wrong[0], many[1]])
        self.sequence(tree, {**good, "number": 2}, [wrong[2], many[0]])
        self.sequence(is_tree, {**good, "number": 2, "value": 3}, [wrong[2], many[1]])

    def test_what_is_passed_and_what_is_told(self):
        for action in self.actions():
            self.leaves((KEPT, dict(PRICES), ["abc"]), action)
        self.leaves((KEPT, dict(PRICES), ["abc"], 2, copy.deepcopy(TREE)), is_tree)
        self.tells_anew(lambda: least_choices(KEPT, PRICES, ["abc"]))
        self.tells_anew(lambda: tree(KEPT, PRICES, ["abc"], 2))
        turned = {word: PRICES[word] for word in list(PRICES)[::-1]}
        for action in self.actions():
            self.assertEqual(action(KEPT, PRICES, ["abc"]), action(KEPT, turned, ["abc"]))


class TreeTest(Case):
    def test_ordinary(self):
        self.is_bool(True, is_tree(KEPT, PRICES, ["abc"], 2, TREE))
        self.is_bool(True, is_tree(lot=KEPT, prices=PRICES, questions=["abc"], number=2, value=TREE))
        told = tree(lot=KEPT, prices=PRICES, questions=["abc"], number=2)
        self.is_bool(True, is_tree(KEPT, PRICES, ["abc"], 2, told))
        self.assertIs(None, tree(KEPT, PRICES, ["abc"], 3))
        # Any cut does, also the greatest one; the words of the branches hang on it.
        self.is_bool(True, is_tree(KEPT, PRICES, ["abc"], 0, (0, [0, 2], [])))
        self.is_bool(True, is_tree(KEPT, PRICES, ["abc"], 0, (0, [0, 1, 2], [])))
        self.is_bool(False, is_tree(KEPT, PRICES, ["abc"], 1, (0, [0, 2], [])))
        self.is_bool(True, is_tree(KEPT, PRICES, ["abc"], 1, (0, [0, 1, 2], [])))
        self.is_bool(False, is_tree(KEPT, PRICES, ["abc"], 2, (0, [0, 1, 2], [])))

    def test_words_that_are_left(self):
        # The branch of b has no branch of a any more, and that of c has neither.
        prices = {"a": 1, "b": 1, "c": 1}
        lot, questions = Lot(), ["abcd"]
        told = tree(lot, prices, questions, 2)
        self.is_bool(True, is_tree(lot, prices, questions, 2, told))
        self.is_bool(True, is_right_tree(lot, prices, questions, 2, told))
        below = ("a", (0, [0, 1], [("b", (0, [0, 1, 2], []))]))
        value = (0, [0, 2], [below, ("b", (0, [0], [])), ("c", (0, [0], []))])
        self.is_bool(True, is_tree(lot, prices, questions, 2, value))
        more = (0, [0, 2], [below, ("b", (0, [0], [("a", (0, [0, 1, 2], []))])), ("c", (0, [0], []))])
        self.is_bool(False, is_tree(lot, prices, questions, 2, more))
        less = (0, [0, 2], [("a", (0, [0, 1], [])), ("b", (0, [0], [])), ("c", (0, [0], []))])
        self.is_bool(False, is_tree(lot, prices, questions, 2, less))

    def test_the_numbers_at_and_around_the_least_price(self):
        found = [0, 0, 0]
        for lot, prices, questions in drawn(620, 200):
            least = least_price(lot, prices, questions)
            numbers = {0, 1, 2, 3, 4, 10 ** 24, sum(prices.values())}
            if least is not None:
                numbers |= {max(least - 1, 0), least, least + 1}
            for number in sorted(numbers):
                told = tree(lot, prices, questions, number)
                self.is_bool(least is not None and least <= number, told is None)
                if told is None:
                    found[0] += 1
                    continue
                self.assertTrue(is_plain(told))
                self.is_bool(True, is_tree(lot, prices, questions, number, told))
                self.is_bool(True, is_right_tree(lot, prices, questions, number, told))
                found[1] += len(told[2]) > 0
                for other in numbers:
                    right = is_right_tree(lot, prices, questions, other, told)
                    found[2] += not right
                    self.is_bool(right, is_tree(lot, prices, questions, other, told))
        self.assertGreater(min(found), 40)

    def test_each_part_bent(self):
        found = [0, 0]
        for lot, prices, questions in [(KEPT, PRICES, ["abc"]), *drawn(630, 60)]:
            for number in (0, 1, 2, 4, 10 ** 24):
                told = tree(lot, prices, questions, number)
                if told is None:
                    continue
                for value in bent(told):
                    right = is_right_tree(lot, prices, questions, number, value)
                    found[right] += 1
                    self.is_bool(right, is_tree(lot, prices, questions, number, value), value)
        self.assertGreater(min(found), 100)

    def test_any_value(self):
        for value in STRANGE + (ANY, (ANY, ANY, ANY), (0, ANY, []), (0, [0, 2], ANY), (0, [0, 2], [ANY]),
                                (0, [0, 2], [("b", ANY)]), (0, [ANY], []), TREE[1:], TREE[2], [TREE], (TREE,),
                                {0: TREE}, "abc", Lot(["b"]), (0, [0, 2], [("b", (0, [0, 1, 2], [()]))])):
            self.is_bool(False, is_tree(KEPT, PRICES, ["abc"], 2, value), value)

    def test_no_tree_if_there_is_a_choice(self):
        # Whatever is tried where the lot settles all questions: there is no cut.
        for value in [(0, list(cut), []) for size in range(4) for cut in itertools.combinations(range(4), size)]:
            self.is_bool(False, is_tree(KEPT, {}, ["abab"], 5, value))
        self.assertIs(None, tree(KEPT, {}, ["abab"], 0))

    def test_ten_words_and_four_questions(self):
        prices = {letter: 1 for letter in "abcdefghij"}
        questions = ["abcdefghij", "jihgfedcba", "aabbccddeeffgghhiijj", "acegibdfhj" * 2]
        for number in (0, 3, 9):
            told = tree(Lot(), prices, questions, number)
            self.is_bool(True, is_tree(Lot(), prices, questions, number, told))
        self.assertIs(None, tree(Lot(), prices, questions, 10))
        told = tree(Lot(), prices, ["z", *questions[:3]], 10 ** 29)
        self.is_bool(True, is_tree(Lot(), prices, ["z", *questions[:3]], 10 ** 29, told))


if __name__ == "__main__":
    unittest.main()
