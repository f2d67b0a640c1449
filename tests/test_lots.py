"""walksback.lots: Lot, its methods and operators."""

import unittest

from support import STRANGE, Case, seeded, some_words
from walksback.errors import InvalidLot, InvalidNames, InvalidWord, InvalidWords, TooMany, UnknownWord
from walksback.graphs import Graph
from walksback.lots import Lot

TEN = ["a", "b", "c", "d", "e", "f", "g", "h", "i", "j"]
LONG = "abcdefghijkl"


class MakingTest(Case):
    def test_words_stand_in_sequence(self):
        self.assertEqual(["b", "ab", "bc", "aaa"], Lot(["aaa", "bc", "b", "ab"]).words())
        self.assertEqual(["b", "ab"], Lot(("ab", "b")).words())
        self.assertEqual(["b", "ab"], Lot(words=["ab", "b"]).words())
        self.assertEqual([], Lot().words())
        self.assertEqual([], Lot([]).words())
        self.assertEqual([], Lot(()).words())

    def test_limits(self):
        self.assertEqual((10, 12), (Lot.MOST_WORDS, Lot.MOST_LETTERS))
        self.assertEqual((10, 12), (Lot().MOST_WORDS, Lot().MOST_LETTERS))
        self.assertEqual(TEN, Lot(TEN[::-1]).words())
        self.assertEqual([LONG], Lot([LONG]).words())
        self.assertEqual(10, len(Lot([letter * 12 for letter in TEN])))

    def test_too_many(self):
        self.fails(TooMany, {"what": "words", "limit": 10}, Lot, [*TEN, "k"])
        self.fails(TooMany, {"what": "words", "limit": 10}, Lot, tuple([*TEN, "k", "l", "m"]))
        with self.assertRaises(TooMany) as held:
            Lot([*TEN, "k"])
        self.assertEqual(("words", 10), (held.exception.what, held.exception.limit))

    def test_wrong_words_come_ahead_of_too_many(self):
        self.fails(InvalidWords, {"position": 11}, Lot, [*TEN, "k", ""])
        self.fails(InvalidWords, {"position": 12}, Lot, [*TEN, "k", "l", "a"])

    def test_no_list(self):
        for value in (None, True, False, 0, 3, "ab", "", {"a": 1}, {}, b"ab", Lot(["a"]), object(), {"a"}):
            self.fails(InvalidWords, {"position": None}, Lot, value)

    def test_the_first_wrong_element(self):
        for value in STRANGE + ("a" * 13, LONG + "a", 0, 1):
            self.fails(InvalidWords, {"position": 0}, Lot, [value])
            self.fails(InvalidWords, {"position": 2}, Lot, ["b", "a", value, "a"])
            self.fails(InvalidWords, {"position": 1}, Lot, ("b", value, None))

    def test_a_word_that_stands_ahead(self):
        self.fails(InvalidWords, {"position": 1}, Lot, ["a", "a"])
        self.fails(InvalidWords, {"position": 3}, Lot, ["b", "a", "ab", "a", "b"])

    def test_it_copies_what_it_is_given(self):
        words = ["b", "ab"]
        lot = Lot(words)
        words.append("c")
        words[0] = "d"
        self.assertEqual(["b", "ab"], lot.words())
        lot.words().append("c")
        self.assertEqual(["b", "ab"], lot.words())
        self.tells_anew(lot.words)


class ReadingTest(Case):
    def test_letters(self):
        self.assertEqual("abcz", Lot(["zc", "ab", "a"]).letters())
        self.assertEqual("b", Lot(["bbb", "b"]).letters())
        self.assertEqual("", Lot().letters())
        self.assertEqual(LONG, Lot([LONG[::-1]]).letters())

    def test_longest_and_shortest(self):
        lot = Lot(["ab", "abcd", "c"])
        self.assertEqual((4, 1), (lot.longest(), lot.shortest()))
        self.assertEqual((12, 12), (Lot([LONG]).longest(), Lot([LONG]).shortest()))
        self.assertEqual((0, 0), (Lot().longest(), Lot().shortest()))

    def test_length(self):
        self.assertEqual([0, 1, 10], [len(Lot()), len(Lot(["ab"])), len(Lot(TEN))])
        self.assertEqual([False, True], [bool(Lot()), bool(Lot(["a"]))])

    def test_in_with_any_value(self):
        lot = Lot(["ab", "b", "abc"])
        for word in ("ab", "b", "abc"):
            self.is_bool(True, word in lot)
        for value in STRANGE + ("a", "c", "bc", "abcd", "ba", 0, 1, ["ab"], ("b",), lot, Lot(["b"]), Graph(1)):
            self.is_bool(False, value in lot, value)
            self.is_bool(False, value in Lot(), value)

    def test_iteration(self):
        lot = Lot(["ab", "c", "b"])
        self.assertEqual(["b", "c", "ab"], list(lot))
        self.assertEqual(["b", "c", "ab"], [word for word in lot])
        self.assertEqual([], list(Lot()))
        pairs = [(one, other) for one in lot for other in lot]
        self.assertEqual([(one, other) for one in lot.words() for other in lot.words()], pairs)
        for word in lot:
            self.assertEqual("b", word)
            break
        self.assertEqual(["b", "c", "ab"], list(lot))
        one, two = iter(lot), iter(lot)
        self.assertEqual(["b", "b", "c"], [next(one), next(two), next(one)])

    def test_equality(self):
        self.is_bool(True, Lot(["a", "bc"]) == Lot(("bc", "a")))
        self.is_bool(True, Lot() == Lot([]))
        self.is_bool(False, Lot(["a"]) == Lot(["b"]))
        self.is_bool(False, Lot(["a"]) == Lot(["a", "b"]))
        self.is_bool(False, Lot(["a"]) != Lot(["a"]))
        self.is_bool(True, Lot(["a"]) != Lot(["aa"]))
        for value in (["a"], ("a",), "a", {"a": 1}, None, True, 1, Graph(1), object(), ["Lot"]):
            self.is_bool(False, Lot(["a"]) == value)
            self.is_bool(False, value == Lot(["a"]))
            self.is_bool(True, Lot(["a"]) != value)
        self.is_bool(False, Lot() == [])

    def test_repr(self):
        self.assertEqual("Lot(['b', 'ab'])", repr(Lot(("ab", "b"))))
        self.assertEqual("Lot([])", repr(Lot()))
        self.assertEqual("[Lot(['a'])]", str([Lot(["a"])]))


class OperatorTest(Case):
    def test_plus(self):
        lot = Lot(["ab", "b"])
        self.assertEqual(["b", "aa", "ab"], (lot + "aa").words())
        self.assertEqual(["b", "ab"], lot.words())
        self.assertEqual([LONG], (Lot() + LONG).words())
        self.assertEqual(TEN, (Lot(TEN[1:]) + "a").words())
        self.assertIs(Lot, type(lot + "c"))

    def test_plus_a_wrong_word(self):
        lot = Lot(["ab", "b"])
        for value in STRANGE + ("ab", "b", "a" * 13, 0, 1, lot, Lot(), ["a"], Graph(1)):
            self.fails(InvalidWord, {"value": value}, lambda: lot + value)

    def test_plus_too_many(self):
        self.fails(TooMany, {"what": "words", "limit": 10}, lambda: Lot(TEN) + "k")
        for value in ("a", "", "a" * 13, None):
            self.fails(InvalidWord, {"value": value}, lambda: Lot(TEN) + value)

    def test_minus(self):
        lot = Lot(["ab", "b", "bc"])
        self.assertEqual(["ab", "bc"], (lot - "b").words())
        self.assertEqual(["b", "ab", "bc"], lot.words())
        self.assertEqual(Lot(), Lot(["a"]) - "a")
        for value in STRANGE + ("a", "abc", 0, lot, Lot(["b"]), ["b"], Graph(1)):
            self.fails(UnknownWord, {"value": value}, lambda: lot - value)

    def test_or_and(self):
        one, other = Lot(["ab", "b", "c"]), Lot(["a", "c", "abc", "b"])
        self.assertEqual(["a", "b", "c", "ab", "abc"], (one | other).words())
        self.assertEqual(["a", "b", "c", "ab", "abc"], (other | one).words())
        self.assertEqual(["b", "c"], (one & other).words())
        self.assertEqual(["b", "c"], (other & one).words())
        self.assertEqual((["b", "c", "ab"], 4), (one.words(), len(other)))
        self.assertEqual([one, one, Lot(), Lot()], [one | Lot(), Lot() | one, one & Lot(), Lot() & one])
        self.assertEqual([one, one], [one | one, one & one])

    def test_or_too_many(self):
        self.assertEqual(Lot(TEN), Lot(TEN[:6]) | Lot(TEN[4:]))
        self.assertEqual(Lot(TEN), Lot(TEN) | Lot(TEN))
        self.fails(TooMany, {"what": "words", "limit": 10}, lambda: Lot(TEN) | Lot(["k"]))
        self.fails(TooMany, {"what": "words", "limit": 10}, lambda: Lot(TEN[:6]) | Lot([*TEN[5:], "z"]))

    def test_or_and_with_no_lot(self):
        for value in STRANGE + ("ab", ["ab"], ("ab",), 0, 1, Graph(1), {"ab": 1}):
            self.fails(InvalidLot, {"value": value}, lambda: Lot(["ab"]) | value)
            self.fails(InvalidLot, {"value": value}, lambda: Lot(["ab"]) & value)
            self.fails(InvalidLot, {"value": value}, lambda: Lot(TEN) | value)


class MethodTest(Case):
    def test_renamed(self):
        lot = Lot(["ab", "b", "bca"])
        self.assertEqual(["a", "ca", "abc"], lot.renamed({"a": "c", "b": "a", "c": "b"}).words())
        self.assertEqual(["x", "yx", "xzy"], lot.renamed(names={"c": "z", "b": "x", "a": "y"}).words())
        self.assertEqual(["b", "ab", "bca"], lot.words())
        self.assertEqual(lot, lot.renamed({"a": "a", "b": "b", "c": "c"}))
        self.assertEqual(Lot(), Lot().renamed({}))

    def test_renamed_puts_the_words_in_sequence_anew(self):
        self.assertEqual(["a", "b"], Lot(["a", "b"]).renamed({"a": "b", "b": "a"}).words())
        self.assertEqual(["aa", "zz"], Lot(["aa", "bb"]).renamed({"a": "z", "b": "a"}).words())

    def test_renamed_with_wrong_names(self):
        lot = Lot(["ab", "b"])
        wrong = (
            {}, {"a": "b"}, {"a": "x", "b": "x"}, {"a": "x", "b": "y", "c": "z"}, {"a": "x", "c": "y"},
            {"a": "x", "b": "Y"}, {"a": "x", "b": ""}, {"a": "x", "b": "yy"}, {"a": "x", "b": None},
            {"a": "x", "b": True}, {"a": "x", "b": ["y"]}, {"a": "x", "b": {}}, {"a": 1, "b": 2}, {1: "a", 2: "b"},
            {"a": "x", "b": "y", None: "z"}, {"a": "x", "b": "y", True: "z"}, {"ab": "x"}, {"a": "x", "B": "y"},
            {"a": "x", "b": "y", ("c",): "z"}, [("a", "x"), ("b", "y")], ("x", "y"), "xy", ["x", "y"],
        )
        for value in STRANGE + wrong + (0, 1, lot):
            self.fails(InvalidNames, {"value": value}, lot.renamed, value)
        for value in ({"a": "b"}, {"a": "a", "b": "b"}, {None: "a"}, [], None, ""):
            self.fails(InvalidNames, {"value": value}, Lot().renamed, value)

    def test_renamed_leaves_the_names(self):
        names = {"b": "c", "a": "b"}
        lot = Lot(["ab"]).renamed(names)
        self.assertEqual({"b": "c", "a": "b"}, names)
        names["a"] = "z"
        self.assertEqual(["bc"], lot.words())

    def test_backwards(self):
        self.assertEqual(["b", "ba", "cba"], Lot(["ab", "b", "abc"]).backwards().words())
        self.assertEqual(["ab", "zz"], Lot(["ba", "zz"]).backwards().words())
        self.assertEqual(Lot(), Lot().backwards())
        source = seeded(2)
        for _ in range(40):
            lot = Lot(some_words(source, "abc", 10, 12))
            self.assertEqual(sorted([word[::-1] for word in lot], key=lambda w: (len(w), w)), lot.backwards().words())
            self.assertEqual(lot, lot.backwards().backwards())

    def test_is_within(self):
        lot = Lot(["ab", "b"])
        self.is_bool(True, lot.is_within(Lot(["b", "c", "ab"])))
        self.is_bool(True, lot.is_within(other=lot))
        self.is_bool(True, Lot().is_within(lot))
        self.is_bool(True, Lot().is_within(Lot()))
        self.is_bool(False, lot.is_within(Lot(["b", "c"])))
        self.is_bool(False, lot.is_within(Lot()))
        self.is_bool(False, lot.is_within(Lot(["a", "bb", "abb"])))
        for value in STRANGE + (["ab", "b"], ("ab", "b"), "ab", 0, Graph(1)):
            self.fails(InvalidLot, {"value": value}, lot.is_within, value)
            self.fails(InvalidLot, {"value": value}, Lot().is_within, value)

    def test_calls_repeated_tell_the_same(self):
        lot = Lot(["ab", "b", "cab"])
        names = {"a": "b", "b": "c", "c": "a"}
        for action in (lot.words, lot.letters, lot.longest, lot.shortest, lot.backwards, lambda: lot.renamed(names),
                       lambda: lot + "c", lambda: lot - "b", lambda: lot | Lot(["c"]), lambda: lot & Lot(["b"])):
            self.assertEqual(action(), action())
        self.assertEqual(["b", "ab", "cab"], lot.words())


if __name__ == "__main__":
    unittest.main()
