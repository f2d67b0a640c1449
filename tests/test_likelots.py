"""walksback.likelots: lots that cover one another, that say the same, words that part them."""

import unittest

from support import Case
from test_allwords import FIVE, SOME, drawn, settles
from test_machines import WRONG_LETTERS, strings
from walksback.allwords import machine_of
from walksback.base import base
from walksback.errors import InvalidLetters, TooMany
from walksback.likelots import covers, parting_word, say_the_same, settled_by_both, settled_by_one
from walksback.lots import Lot
from walksback.machines import Machine

TWO = Lot(["aa", "aaa"])
LONG = Lot(["aaa", "aaaa"])


def pairs_of_lots(number, rounds=80):
    """Tuples (one, other, letters) of lots over the same letters, some of them nearly the same."""
    some = list(drawn(number, rounds))
    for at, (one, letters) in enumerate(some):
        other = some[(at + 5) % len(some)][0]
        yield one, other, letters
        yield one, base(one), letters
        for word in one.words()[:2]:
            yield one, one - word, letters
            yield one - word, one, letters


class CoversTest(Case):
    def test_ordinary(self):
        self.assertEqual([True, False, "aa"], [covers(TWO, LONG), covers(LONG, TWO), parting_word(TWO, LONG)])
        self.is_bool(True, covers(one=TWO, other=LONG))
        self.is_bool(False, say_the_same(one=TWO, other=LONG))
        self.assertEqual("aa", parting_word(one=LONG, other=TWO))
        self.is_bool(True, say_the_same(Lot(["a", "b"]), Lot(["a", "b", "ab"])))
        self.assertIs(None, parting_word(Lot(["a", "b"]), Lot(["a", "b", "ab"])))
        self.is_bool(True, say_the_same(Lot(["ab", "b", "bc", "abc"]), SOME))

    def test_lots_without_words(self):
        self.is_bool(True, covers(TWO, Lot()))
        self.is_bool(False, covers(Lot(), TWO))
        self.is_bool(True, say_the_same(Lot(), Lot()))
        self.assertEqual([None, "aa", "aa"], [parting_word(Lot(), Lot()), parting_word(TWO, Lot()),
                                              parting_word(Lot(), TWO)])

    def test_by_all_words_of_the_other_lot(self):
        found = [0, 0, 0, 0]
        for one, other, letters in pairs_of_lots(780):
            here = all(settles(one, word) for word in other)
            there = all(settles(other, word) for word in one)
            found[here + 2 * there] += 1
            self.is_bool(here, covers(one, other))
            self.is_bool(there, covers(other, one))
            self.is_bool(here and there, say_the_same(one, other))
            apart = [word for word in [*one, *other] if settles(one, word) != settles(other, word)]
            least = min(apart, key=lambda word: (len(word), word), default=None)
            self.assertEqual(least, parting_word(one, other))
            self.assertEqual(least, parting_word(other, one))
            self.is_bool(base(one) == base(other), say_the_same(one, other))
        self.assertGreater(min(found), 5)

    def test_by_all_words(self):
        # Covered is who settles nothing else, of all words; the parting word is the least one of all words.
        for one, other, letters in pairs_of_lots(781, 30):
            all_letters = "".join(sorted(set(one.letters() + other.letters()))) or letters
            words = strings(all_letters, {1: 10, 2: 6, 3: 4, 4: 4}[len(all_letters)])[1:]
            if covers(one, other):
                self.assertTrue(all(settles(one, word) for word in words if settles(other, word)))
            apart = [word for word in words if settles(one, word) != settles(other, word)]
            self.assertEqual(apart[0] if apart else None, parting_word(one, other))

    def test_words_of_up_to_twelve_letters(self):
        long = Lot(["ab" * 6, "ab" * 5])
        self.is_bool(True, covers(Lot(["ab"]), long))
        self.is_bool(False, covers(long, Lot(["ab"])))
        self.assertEqual("ab", parting_word(long, Lot(["ab"])))
        self.assertEqual("ab" * 5, parting_word(long, Lot(["ab" * 6])))
        self.assertEqual("b" * 12, parting_word(Lot(["a", "b" * 12]), Lot(["a"])))
        # Of those of one length the first one.
        self.assertEqual("ab", parting_word(Lot(["ba", "ab"]), Lot(["bb"])))
        self.is_bool(True, say_the_same(long, Lot(["ab" * 6, "ab" * 5])))


class MachinesOfTwoTest(Case):
    def test_ordinary(self):
        self.assertEqual(machine_of(LONG, "a"), settled_by_both(TWO, LONG, "a"))
        self.assertEqual(Machine("a", [[1], [2], [3], [3]], [2]), settled_by_one(TWO, LONG, "a"))
        self.assertEqual(Machine("a", [[1], [2], [3], [3]], [2]), settled_by_one(one=LONG, other=TWO, letters="a"))
        self.assertEqual(machine_of(LONG, "a"), settled_by_both(one=TWO, other=LONG, letters="a"))
        self.assertEqual(Machine("ab", [[0, 0]], []), settled_by_one(TWO, TWO, "ab"))

    def test_against_what_both_settle(self):
        for one, other, letters in pairs_of_lots(790, 30):
            both = settled_by_both(one, other, letters)
            single = settled_by_one(one, other, letters)
            for machine in (both, single):
                self.assertEqual(machine, machine.least())
                self.assertEqual(letters, machine.letters())
            for string in strings(letters, {1: 10, 2: 5, 3: 4}[len(letters)]):
                here, there = settles(one, string), settles(other, string)
                self.is_bool(here and there, string in both)
                self.is_bool(here != there, string in single)
            within = set(one.letters() + other.letters()) <= set(letters)
            if within:
                self.assertEqual(parting_word(one, other), single.first())

    def test_errors(self):
        for action in (settled_by_both, settled_by_one):
            self.fails_for_all(InvalidLetters, WRONG_LETTERS, lambda value: action(SOME, TWO, value))
            self.fails(TooMany, {"what": "word", "limit": 4}, action, FIVE, SOME, "abc")
            self.fails(TooMany, {"what": "word", "limit": 4}, action, SOME, FIVE, "abc")
            self.fails(TooMany, {"what": "word", "limit": 4}, action, SOME, Lot(["zzzzz"]), "a")
            self.sequence(action, {"one": SOME, "other": TWO, "letters": "ab"}, [
                ({"letters": "aa"}, InvalidLetters, {}), ({"one": FIVE}, TooMany, {"what": "word"}),
                ({"other": FIVE}, TooMany, {"what": "word"}),
            ])
            self.tells_anew(lambda: action(SOME, TWO, "abc"))
            self.leaves((SOME, TWO, "abc"), action)


if __name__ == "__main__":
    unittest.main()
