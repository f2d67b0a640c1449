"""walksback.allwords: the machine of a lot, what it does not settle, families."""

import itertools
import unittest
from unittest.mock import ANY

from support import STRANGE, Case, is_plain, seeded
from test_base import joined
from test_machines import WRONG_LETTERS, WRONG_NUMBERS, strings
from walksback.allwords import family, first_unsettled, how_many, is_family, last_unsettled, machine_of
from walksback.errors import InvalidLetters, InvalidNumber, TooMany
from walksback.lots import Lot
from walksback.machines import Machine

LONG = Lot(["aaa", "aaaa"])
SOME = Lot(["ab", "b", "bc"])
FIVE = Lot(["a", "abcab"])


def drawn(number, rounds=120):
    """Tuples (lot, letters), drawn from a seeded source; words of up to four letters, some of other letters."""
    source = seeded(number)
    for turn in range(rounds):
        letters = ("a", "ab", "abc", "bz", "ab")[turn % 5]
        words = set()
        for _ in range(source.randint(0, 6)):
            word = "".join(source.choice(letters) for _ in range(source.randint(1, 4)))
            if source.random() < 0.15:
                word = word[:3] + "q"
            words.add(word)
        yield Lot(sorted(words)), letters


def settles(lot, string):
    """Whether the lot settles a string; the empty one counts as settled."""
    return string == "" or joined(lot, string)


class MachineOfTest(Case):
    def test_ordinary(self):
        self.assertEqual(Machine("a", [[1], [2], [3], [3]], [0, 3]), machine_of(LONG, "a"))
        self.assertEqual(Machine("ab", [[0, 0]], [0]), machine_of(lot=Lot(["a", "b"]), letters="ab"))
        self.assertEqual(Machine("ab", [[0, 1], [1, 1]], [0]), machine_of(Lot(["a"]), "ab"))

    def test_against_what_the_lot_settles(self):
        for lot, letters in drawn(750):
            machine = machine_of(lot, letters)
            self.assertEqual(machine, machine.least())
            self.assertEqual(letters, machine.letters())
            for string in strings(letters, {1: 14, 2: 7, 3: 5}[len(letters)]):
                self.is_bool(settles(lot, string), string in machine, (lot, string))

    def test_longer_strings(self):
        source = seeded(751)
        settled = 0
        for lot, letters in drawn(751, 60):
            machine = machine_of(lot, letters)
            for _ in range(20):
                string = ""
                while len(string) < source.randint(8, 20):
                    string += source.choice(lot.words() or ["a"])
                string = "".join(sign for sign in string if sign in letters)
                settled += settles(lot, string)
                self.is_bool(settles(lot, string), string in machine)
        self.assertGreater(settled, 100)

    def test_words_with_other_letters_play_no_part(self):
        for lot, letters in drawn(752, 40):
            within = Lot([word for word in lot if set(word) <= set(letters)])
            self.assertEqual(machine_of(within, letters), machine_of(lot, letters))
        self.assertEqual(machine_of(Lot(), "ab"), machine_of(Lot(["c", "ac", "abcd"]), "ab"))

    def test_a_lot_without_words(self):
        self.assertEqual(Machine("ab", [[1, 1], [1, 1]], [0]), machine_of(Lot(), "ab"))
        self.assertEqual(Machine("z", [[1], [1]], [0]), machine_of(Lot(["a", "b"]), "z"))

    def test_words_of_four_letters_and_of_five(self):
        lot = Lot(["abca", "bcab", "cabc", "abc", "aacb", "bbca", "caab", "a", "bb", "ccc"])
        machine = machine_of(lot, "abc")
        for string in strings("abc", 6):
            self.is_bool(settles(lot, string), string in machine)
        for action in self.actions():
            action(lot, "abc")
            self.fails(TooMany, {"what": "word", "limit": 4}, action, FIVE, "abc")
            # Also if the word has other letters.
            self.fails(TooMany, {"what": "word", "limit": 4}, action, FIVE, "z")
            self.fails(TooMany, {"what": "word", "limit": 4}, action, Lot(["a" * 12]), "a")

    def test_many_standings(self):
        lot = Lot(["caa", "aaab", "aabc", "abca", "acaa", "bbaa", "bcac", "bcbb", "caaa", "cbba"])
        machine = machine_of(lot, "abc")
        self.assertEqual(116, len(machine))
        for string in strings("abc", 7):
            self.is_bool(settles(lot, string), string in machine)

    def actions(self):
        """All functions, called with a lot and letters."""
        return (machine_of, lambda *two: how_many(*two, 3), first_unsettled, last_unsettled, family,
                lambda *two: is_family(*two, ("", "a", "")))

    def test_errors(self):
        for action in self.actions():
            self.fails_for_all(InvalidLetters, WRONG_LETTERS, lambda value: action(SOME, value))
            # TooMany is behind all other errors.
            self.fails(InvalidLetters, {"value": "ba"}, action, FIVE, "ba")
        self.fails_for_all(InvalidNumber, WRONG_NUMBERS, lambda value: how_many(SOME, "abc", value))
        self.fails(TooMany, {"what": "letters", "limit": 200}, how_many, SOME, "abc", 201)
        good = {"lot": SOME, "letters": "ab", "size": 3}
        self.sequence(how_many, good, [
            ({"letters": "ba"}, InvalidLetters, {}),
            ({"size": True}, InvalidNumber, {"value": True}),
            ({"lot": FIVE}, TooMany, {"what": "word"}),
        ])
        self.sequence(how_many, good, [
            ({"letters": None}, InvalidLetters, {}),
            ({"size": 201}, TooMany, {"what": "letters", "limit": 200}),
            ({"lot": FIVE}, TooMany, {"what": "word", "limit": 4}),
        ])

    def test_what_is_told_is_new(self):
        for action in self.actions():
            self.tells_anew(lambda: action(SOME, "abc"))
            self.leaves((SOME, "abc"), action)


class UnsettledTest(Case):
    def test_ordinary(self):
        self.assertEqual([6, "a", 2], [how_many(SOME, "abc", 3), first_unsettled(LONG, "a"), last_unsettled(LONG, "a")])
        self.assertEqual([1, 0, 0, 1, 1], [how_many(lot=LONG, letters="a", size=size) for size in range(5)])
        self.assertEqual(["b", None], [first_unsettled(lot=Lot(["a"]), letters="ab"),
                                       first_unsettled(Lot(["a", "b"]), "ab")])
        self.assertEqual([0, None, 0], [last_unsettled(Lot(["a", "b"]), "ab"), last_unsettled(SOME, "abc"),
                                        last_unsettled(lot=Lot(["a"]), letters="a")])
        self.assertEqual([None, "a", None], [first_unsettled(Lot(["a"]), "a"), first_unsettled(Lot(), "ab"),
                                             last_unsettled(Lot(), "a")])

    def test_how_many(self):
        for lot, letters in drawn(760, 60):
            most = {1: 12, 2: 6, 3: 4}[len(letters)]
            for size in range(most + 1):
                expected = [string for string in strings(letters, most) if len(string) == size and settles(lot, string)]
                self.assertEqual(len(expected), how_many(lot, letters, size))
        self.assertEqual([1, 3 ** 200], [how_many(SOME, "abc", 0), how_many(Lot(["a", "b", "c"]), "abc", 200)])
        self.assertEqual(1, how_many(LONG, "a", 200))

    def test_first_and_last(self):
        found = [0, 0, 0]
        for lot, letters in itertools.chain(drawn(761, 150), self.lots_that_settle_much()):
            told = first_unsettled(lot, letters)
            size = len(machine_of(lot, letters))
            # Who does not let some string does not let one with fewer letters than there are standings.
            within = strings(letters, min(size, {1: 20, 2: 8, 3: 5}[len(letters)]))
            missed = [string for string in within if not settles(lot, string)]
            self.assertEqual(missed[0] if missed else None, told)
            last = last_unsettled(lot, letters)
            lacking = [more for more in range(2 * size) if how_many(lot, letters, more) < len(letters) ** more]
            if last is None:
                found[0] += 1
                self.assertTrue([more for more in lacking if more >= size])
            else:
                found[1] += last == 0
                found[2] += last > 0
                self.assertTrue(is_plain([last]))
                self.assertEqual(max(lacking, default=0), last)
                self.assertLess(last, size)
        self.assertGreater(min(found), 3)

    def lots_that_settle_much(self):
        """Lots that do not settle but few words, with the letters."""
        for sizes in ((2, 3), (3, 4), (1,), (2, 3, 4), (3, 4, 1)):
            yield Lot(["a" * size for size in sizes]), "a"
        for size in (2, 3):
            words = ["".join(some) for some in itertools.product("ab", repeat=size)]
            yield Lot(words), "ab"
        yield Lot(["a", *["".join(some) for some in itertools.product("ab", repeat=3)]]), "ab"
        yield Lot(["aa", "ab", "ba", "bb", "aaa", "abb", "baa", "bbb"]), "ab"
        yield Lot(["a", "b", "c"]), "abc"


class FamilyTest(Case):
    def test_ordinary(self):
        self.is_bool(True, is_family(lot=LONG, letters="ab", value=("b", "a", "")))
        self.is_bool(True, is_family(SOME, "abc", family(lot=SOME, letters="abc")))
        self.assertEqual([None, None], [family(LONG, "a"), family(Lot(["a", "b", "c"]), "abc")])
        # For no number of laps, none included.
        self.is_bool(False, is_family(Lot(["b"]), "ab", ("b", "a", "")))
        self.is_bool(True, is_family(Lot(["b"]), "ab", ("ba", "a", "")))
        self.is_bool(False, is_family(LONG, "ab", ("", "b", "")))
        # a, aaa, aaaaa, ..: of aa alone none; of aa and aaa only the first.
        self.is_bool(True, is_family(Lot(["aa"]), "a", ("a", "aa", "")))
        self.is_bool(False, is_family(Lot(["aa"]), "a", ("a", "a", "")))
        self.is_bool(False, is_family(Lot(["aa", "aaa"]), "a", ("a", "aa", "")))
        self.is_bool(True, is_family(Lot(["aa"]), "a", ("", "aaaa", "aaa")))

    def test_just_if_endlessly_many_are_not_settled(self):
        found = [0, 0]
        for lot, letters in itertools.chain(drawn(770, 150), UnsettledTest().lots_that_settle_much()):
            told = family(lot, letters)
            self.is_bool(last_unsettled(lot, letters) is None, told is not None)
            found[told is not None] += 1
            if told is not None:
                self.assertIs(tuple, type(told))
                self.is_bool(True, is_family(lot, letters, told))
                begin, lap, end = told
                self.assertNotEqual("", lap)
                for many in range(6):
                    string = begin + many * lap + end
                    self.is_bool(False, settles(lot, string))
        self.assertGreater(min(found), 5)

    def test_is_family_against_many_laps(self):
        source = seeded(771)
        found = [0, 0]
        for lot, letters in drawn(771, 120):
            size = len(machine_of(lot, letters))
            for _ in range(12):
                value = tuple("".join(source.choice(letters) for _ in range(source.randint(low, 3)))
                              for low in (0, 1, 0))
                begin, lap, end = value
                right = not any(settles(lot, begin + many * lap + end) for many in range(size + 2))
                found[right] += 1
                self.is_bool(right, is_family(lot, letters, value), (lot, value))
        self.assertGreater(min(found), 100)

    def test_a_string_that_is_settled_late(self):
        # Over aaaa and aaa, from three letters on all are settled: the lap by one letter comes there.
        self.is_bool(False, is_family(LONG, "a", ("a", "a", "")))
        ring = Lot(["aaaa"])
        for begin in range(1, 8):
            for lap in range(1, 9):
                right = all((begin + many * lap) % 4 for many in range(5))
                self.is_bool(right, is_family(ring, "a", ("a" * begin, "a" * lap, "")))

    def test_any_value(self):
        lot = Lot(["b"])
        good = ("a", "a", "")
        self.is_bool(True, is_family(lot, "ab", good))
        for value in STRANGE + (list(good), good[:2], (*good, ""), "aa", {"a": "a"}, ("a", "", ""), ("a", "", "a"),
                                ("c", "a", ""), ("a", "c", ""), ("a", "a", "c"), ("a", "ac", ""), (None, "a", ""),
                                ("a", None, ""), ("a", "a", None), (["a"], "a", ""), ("a", ["a"], ""), ("a", b"a", ""),
                                ("a", 1, ""), ("A", "a", ""), ("a", "a", " "), (ANY, "a", ""), ("a", ANY, ""),
                                ("a", "a", ANY), ANY, (good,), lot, machine_of(lot, "ab")):
            self.is_bool(False, is_family(lot, "ab", value), value)
            self.is_bool(False, is_family(Lot(["a", "b"]), "ab", value), value)

    def test_long_strings(self):
        self.is_bool(True, is_family(Lot(["b"]), "ab", ("b" * 3000 + "a", "ab" * 3000, "b" * 3000)))
        self.is_bool(False, is_family(LONG, "a", ("a" * 3000, "a" * 3001, "a")))


if __name__ == "__main__":
    unittest.main()
