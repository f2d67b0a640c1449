"""walksback.machines: standings, goals, letting; least machines, operators, counts, places."""

import itertools
import unittest
from unittest.mock import ANY

from support import STRANGE, Case, is_plain, seeded
from walksback.errors import (
    InvalidLetters, InvalidLetting, InvalidMachine, InvalidNumber, InvalidRows, InvalidWord, OtherLetters, TooMany,
)
from walksback.lots import Lot
from walksback.machines import Machine

# Over a and b: an even number of a lets.
EVEN = Machine("ab", [[1, 0], [0, 1]], [0])
# A string ends with b.
ENDS = Machine("ab", [[0, 1], [0, 1]], [1])
WRONG_LETTERS = STRANGE + ("abcd", "ba", "aa", "aab", "acb", "abb", "A", "aB", "Ab", "a ", "a~", " a", "1ab",
                           ["a"], ("a", "b"), 1, ANY, Lot(["a"]))
# What is no string over ab.
WRONG_STRINGS = tuple(value for value in STRANGE if value != "") + ("c", "abc", "abA", ["a"], ("a", "b"), 0, 1, ANY)
WRONG_NUMBERS = tuple(value for value in STRANGE if isinstance(value, bool) or not isinstance(value, int)
                      or value < 0) + ("1", [1], (1,), {1: 1}, EVEN, ANY)


def strings(letters, most):
    """All strings over the letters of up to so many letters, shorter ones first, then sorted."""
    return ["".join(some) for size in range(most + 1) for some in itertools.product(letters, repeat=size)]


def lets(letters, rows, letting, string):
    """Whether the machine lets the string, by the definition."""
    standing = 0
    for letter in string:
        standing = rows[standing][letters.index(letter)]
    return standing in letting


def drawn(number, rounds, most=7):
    """Tuples (letters, rows, letting) of machines of which all standings are come to, drawn from a seeded source."""
    source = seeded(number)
    for turn in range(rounds):
        letters = ("a", "ab", "abc", "bz", "xyz")[turn % 5]
        size = source.randint(1, most)
        rows = [[source.randrange(size) for _ in letters] for _ in range(size)]
        met = [0]
        for standing in met:
            met += [goal for goal in dict.fromkeys(rows[standing]) if goal not in met]
        source.shuffle(met)
        met.remove(0)
        names = {standing: at for at, standing in enumerate([0, *met])}
        rows = [[names[goal] for goal in rows[standing]] for standing in names]
        letting = [standing for standing in range(len(rows)) if source.random() < 0.5]
        source.shuffle(letting)
        yield letters, rows, letting


def least_by_hand(letters, rows, letting):
    """The least machine, by telling standings apart again and again, and by numbering them as they are come to."""
    kinds = [standing in letting for standing in range(len(rows))]
    while True:
        marks = [(kinds[standing], *[kinds[goal] for goal in rows[standing]]) for standing in range(len(rows))]
        known = sorted(set(marks))
        if len(known) == len(set(kinds)):
            break
        kinds = [known.index(mark) for mark in marks]
    order = [kinds[0]]
    told = []
    for kind in order:
        goals = [kinds[goal] for goal in rows[kinds.index(kind)]]
        order += [goal for goal in dict.fromkeys(goals) if goal not in order]
        told.append([order.index(goal) for goal in goals])
    return Machine(letters, told, [at for at, kind in enumerate(order) if kinds.index(kind) in letting])


def ring(size, letting=(0,)):
    """The machine over a that lets the strings of so many letters, again and again."""
    return Machine("a", [[(at + 1) % size] for at in range(size)], list(letting))


class MachineTest(Case):
    def test_ordinary(self):
        machine = Machine("ab", [[1, 0], [2, 0], [2, 2]], (2, 0))
        self.assertEqual(["ab", [[1, 0], [2, 0], [2, 2]], [0, 2], 3],
                         [machine.letters(), machine.rows(), machine.letting(), len(machine)])
        self.assertEqual([0, 1, 2, 0, 2, 2], [machine.goes(string) for string in ("", "a", "aa", "ab", "aab", "aabb")])
        self.assertEqual("Machine('ab', [[1, 0], [2, 0], [2, 2]], [0, 2])", repr(machine))
        self.assertEqual("Machine('a', [[1], [1]], [0])", repr(Machine("a", ((1,), (1,)), (0,))))
        self.assertEqual(machine, Machine(letters="ab", rows=((1, 0), [2, 0], (2, 2)), letting=[0, 2]))
        self.assertEqual(1, machine.goes(string="a"))
        self.assertEqual("Machine('z', [[0]], [])", repr(Machine("z", [[0]], [])))

    def test_in(self):
        for letters, rows, letting in drawn(700, 40):
            machine = Machine(letters, rows, letting)
            for string in strings(letters, 4):
                self.is_bool(lets(letters, rows, letting, string), string in machine)
                self.assertTrue(is_plain([machine.goes(string)]))
        for value in STRANGE + ("c", "abab ", ["a"], ("b",), b"b", 0, 1, ANY, Lot(["b"])):
            self.is_bool(value == "" and isinstance(value, str), value in EVEN, value)
            self.is_bool(False, value in ENDS, value)
        self.is_bool(True, "ab" * 300 + "b" in ENDS)

    def test_equality(self):
        self.is_bool(True, EVEN == Machine("ab", ((1, 0), (0, 1)), (0,)))
        self.is_bool(True, Machine("a", [[1], [0]], [1, 0]) == Machine("a", [[1], [0]], (0, 1)))
        for other in (Machine("bc", [[1, 0], [0, 1]], [0]), Machine("ab", [[1, 1], [0, 1]], [0]),
                      Machine("ab", [[1, 0], [0, 1]], [1]), Machine("ab", [[1, 0], [0, 1]], [0, 1]), ENDS,
                      Machine("ab", [[1, 0], [0, 1]], []), None, "ab", [[1, 0], [0, 1]], repr(EVEN), 0, Lot()):
            self.is_bool(False, EVEN == other)
            self.is_bool(True, EVEN != other)
            self.is_bool(False, other == EVEN)
        # Alike machines are equal just if their parts are.
        self.is_bool(False, Machine("a", [[1], [1]], []) == Machine("a", [[0]], []))

    def test_parts_are_copied(self):
        rows, letting = [[1, 0], [0, 1]], [1, 0]
        machine = Machine("ab", rows, letting)
        rows[0][0] = 0
        rows.append([0, 0])
        letting.clear()
        self.assertEqual([[[1, 0], [0, 1]], [0, 1]], [machine.rows(), machine.letting()])
        for action in (machine.rows, machine.letting, machine.letters, machine.least):
            self.tells_anew(action)
        self.leaves(("ab", [[1, 0], [0, 1]], [1, 0]), Machine)

    def test_what_is_no_machine(self):
        self.fails_for_all(InvalidLetters, WRONG_LETTERS, lambda value: Machine(value, [[0]], [0]))
        for value in STRANGE + ("0", {0: [0]}, ANY):
            if not isinstance(value, (list, tuple)) or not value:
                self.fails(InvalidRows, {"position": None}, Machine, "a", value, [])
        for row in STRANGE + ([], [0, 0, 0], [2, 0], [0, -1], ["0", 0], [0, None], [True, 0], [0, False], [0], 0, "00",
                              {0: 0, 1: 0}, [[0, 0]], [0, ANY], ANY, (0, 10 ** 20)):
            self.fails(InvalidRows, {"position": 1}, Machine, "ab", [[1, 1], row], [])
            self.fails(InvalidRows, {"position": 0}, Machine, "ab", [row, row], [])
        wrong = ([2], [0, 0], [0, 1, 0], [-1], ["0"], [None], [True], [0, False], 0, "0", {0: 1}, ANY, [ANY])
        for value in [value for value in STRANGE if value not in ([], ())] + list(wrong):
            self.fails(InvalidLetting, {"value": value}, Machine, "ab", [[1, 0], [0, 1]], value)

    def test_standings_that_are_not_come_to(self):
        self.fails(InvalidRows, {"position": 1}, Machine, "a", [[0], [0]], [])
        self.fails(InvalidRows, {"position": 1}, Machine, "a", [[2], [1], [0], [1]], [])
        self.fails(InvalidRows, {"position": 3}, Machine, "ab", [[1, 2], [0, 2], [1, 1], [4, 0], [3, 3]], [])
        # A wrong row comes first, ahead of such a standing or behind it.
        self.fails(InvalidRows, {"position": 2}, Machine, "a", [[0], [0], [3]], [])
        self.fails(InvalidRows, {"position": 0}, Machine, "a", [[True], [0], [1]], [])
        self.fails(InvalidRows, {"position": 3}, Machine, "a", [[2], [1], [0], None, []], [])

    def test_the_sequence_of_the_errors(self):
        self.sequence(Machine, {"letters": "ab", "rows": [[1, 0], [0, 1]], "letting": [0]}, [
            ({"letters": "ba"}, InvalidLetters, {}),
            ({"rows": [[1, 0], [0, 2]]}, InvalidRows, {"position": 1}),
            ({"letting": [0, 0]}, InvalidLetting, {}),
        ])
        self.sequence(Machine, {"letters": "ab", "rows": [[1, 0], [0, 1]], "letting": [0]}, [
            ({"letters": ""}, InvalidLetters, {}),
            ({"rows": [[0, 0], [1, 1]]}, InvalidRows, {"position": 1}),
            ({"letting": [-1]}, InvalidLetting, {}),
        ])

    def test_2000_rows_and_2001(self):
        self.assertEqual(2000, len(ring(2000)))
        self.fails(TooMany, {"what": "standings", "limit": 2000}, ring, 2001)
        self.fails(InvalidLetting, {}, ring, 2001, (2001,))
        self.fails(InvalidRows, {"position": 2}, Machine, "a", [[1], [0], *[[2] for _ in range(2000)]], [])
        self.assertEqual(ring(2000), ring(2000).least())
        self.assertEqual(Machine("a", [[1], [0]], [0]), ring(2000, range(0, 2000, 2)).least())
        for letting in ([1999], list(range(1999))):
            chain = Machine("a", [[min(at + 1, 1999)] for at in range(2000)], letting)
            self.assertEqual(chain, chain.least())
        self.assertEqual([1, 0, "a" * 10, True], [ring(2000).count(0), ring(2000).count(200),
                                                  ring(2000, (10,)).first(), ring(2000).is_endless()])


class LeastTest(Case):
    def test_numbered_as_they_are_come_to(self):
        machine = Machine("ab", [[3, 1], [1, 1], [0, 2], [3, 2]], [2, 3])
        self.assertEqual(Machine("ab", [[1, 2], [1, 3], [2, 2], [0, 3]], [1, 3]), machine.least())
        # 0, then its goals by the letters, then the goals of these.
        machine = Machine("ab", [[2, 1], [1, 0], [2, 3], [1, 2]], [1])
        self.assertEqual(Machine("ab", [[1, 2], [1, 3], [2, 0], [2, 1]], [2]), machine.least())

    def test_by_hand(self):
        smaller = 0
        for letters, rows, letting in drawn(710, 400, 12):
            machine = Machine(letters, rows, letting)
            told = machine.least()
            self.assertEqual(least_by_hand(letters, rows, letting), told)
            self.assertEqual(told, told.least())
            for string in strings(letters, 3):
                self.is_bool(string in machine, string in told)
            smaller += len(told) < len(machine)
        self.assertGreater(smaller, 40)

    def test_alike_machines_have_the_same_one(self):
        source = seeded(711)
        for letters, rows, letting in drawn(711, 80):
            machine = Machine(letters, rows, letting)
            # Each standing twice, goals drawn among both of them: alike, if all are come to.
            size = len(rows)
            twice = [[goal + size * source.randint(0, 1) for goal in rows[standing % size]]
                     for standing in range(2 * size)]
            met = [0]
            for standing in met:
                met += [goal for goal in dict.fromkeys(twice[standing]) if goal not in met]
            names = {standing: at for at, standing in enumerate(met)}
            again = Machine(letters, [[names[goal] for goal in twice[standing]] for standing in met],
                            [names[standing] for standing in met if standing % size in letting])
            self.assertEqual(machine.least(), again.least())

    def test_machines_that_let_all_or_nothing(self):
        for letting in ([], [0, 1, 2]):
            machine = Machine("ab", [[1, 2], [2, 0], [0, 0]], letting)
            self.assertEqual(Machine("ab", [[0, 0]], letting[:1]), machine.least())


class OperatorTest(Case):
    def test_against_all_strings(self):
        some = list(drawn(720, 60, 5))
        for one, other in zip(some, some[5:]):
            first, second = Machine(*one), Machine(*other)
            told = {"not": ~first, "and": first & second, "or": first | second, "less": first - second}
            for machine in told.values():
                self.assertIs(Machine, type(machine))
                self.assertEqual(machine, machine.least())
                self.assertEqual(one[0], machine.letters())
            for string in strings(one[0], 4 if len(one[0]) > 1 else 25):
                here, there = string in first, string in second
                self.is_bool(not here, string in told["not"])
                self.is_bool(here and there, string in told["and"])
                self.is_bool(here or there, string in told["or"])
                self.is_bool(here and not there, string in told["less"])

    def test_laws(self):
        self.assertEqual(EVEN, ~~EVEN)
        self.assertEqual(~(EVEN & ENDS), ~EVEN | ~ENDS)
        self.assertEqual(EVEN - ENDS, EVEN & ~ENDS)
        self.assertEqual(Machine("ab", [[0, 0]], []), EVEN - EVEN)
        self.assertEqual(Machine("ab", [[0, 0]], [0]), EVEN | ~EVEN)
        # Not the parts of the one count, but what it lets.
        long = Machine("ab", [[1, 2], [3, 1], [1, 0], [2, 3]], [0, 2, 3])
        self.assertEqual(long.least(), long & long)
        self.assertEqual(long.least(), long | long)

    def test_errors(self):
        for value in STRANGE + (0, 1, "ab", Lot(["a"]), [EVEN], (EVEN,), ANY, repr(EVEN), {EVEN.letters(): EVEN}):
            for action in (lambda: EVEN & value, lambda: EVEN | value, lambda: EVEN - value):
                self.fails(InvalidMachine, {"value": value}, action)
        for other in (Machine("a", [[0]], [0]), Machine("bc", [[0, 0]], []), Machine("abc", [[0, 0, 0]], [0])):
            for action in (lambda: EVEN & other, lambda: EVEN | other, lambda: EVEN - other):
                self.fails(OtherLetters, {"one": "ab", "other": other.letters()}, action)

    def test_too_many_pairs_of_standings(self):
        # Of 125 and 16 standings all 2,000 pairs are come to, of 69 and 29 all 2,001.
        self.assertEqual(2000, len(ring(125) & ring(16)))
        for action in (lambda: ring(69) & ring(29), lambda: ring(69) | ring(29), lambda: ring(69) - ring(29)):
            self.fails(TooMany, {"what": "standings", "limit": 2000}, action)
        # Pairs that are not come to do not count, standings that are alike do.
        self.assertEqual(100, len(ring(100) & ring(50)))
        self.fails(TooMany, {}, lambda: ring(69, ()) & ring(29))
        self.fails(OtherLetters, {}, lambda: ring(69) & Machine("b", [[0]], []))
        self.assertEqual(2000, len(~ring(2000)))


class CountTest(Case):
    def test_against_all_strings(self):
        for letters, rows, letting in drawn(730, 100):
            machine = Machine(letters, rows, letting)
            most = 5 if len(letters) > 1 else 12
            for size in range(most):
                let = [string for string in strings(letters, most)
                       if len(string) == size and lets(letters, rows, letting, string)]
                self.assertEqual(len(let), machine.count(size))
                for place, string in enumerate(let):
                    self.assertEqual(string, machine.string_at(size, place))
                    self.assertEqual(place, machine.place_of(string))
                for place in (len(let), len(let) + 1, 10 ** 25):
                    self.assertIs(None, machine.string_at(size, place))
            for string in strings(letters, 3):
                if not lets(letters, rows, letting, string):
                    self.assertIs(None, machine.place_of(string))

    def test_great_sizes(self):
        whole = Machine("abc", [[0, 0, 0]], [0])
        self.assertEqual([1, 3 ** 200], [whole.count(0), whole.count(200)])
        self.assertEqual("c" * 200, whole.string_at(200, 3 ** 200 - 1))
        self.assertIs(None, whole.string_at(200, 3 ** 200))
        self.assertEqual(3 ** 200 - 1, whole.place_of("c" * 200))
        self.assertEqual("a" * 199 + "b", whole.string_at(size=200, place=1))
        self.assertEqual(2, whole.place_of(string="a" * 199 + "c"))
        self.assertEqual(["", None, 0], [whole.string_at(0, 0), whole.string_at(0, 1), whole.place_of("")])
        self.assertEqual(2 ** 199, EVEN.count(size=200))
        for place in (0, 5, 10 ** 29):
            self.assertEqual(place, EVEN.place_of(EVEN.string_at(200, place)))

    def test_errors(self):
        for action in (EVEN.count, lambda size: EVEN.string_at(size, 0)):
            self.fails_for_all(InvalidNumber, WRONG_NUMBERS, action)
            self.fails(TooMany, {"what": "letters", "limit": 200}, action, 201)
            self.fails(TooMany, {"what": "letters", "limit": 200}, action, 10 ** 25)
        self.fails_for_all(InvalidNumber, WRONG_NUMBERS, lambda place: EVEN.string_at(3, place))
        self.sequence(EVEN.string_at, {"size": 3, "place": 0}, [
            ({"size": False}, InvalidNumber, {"value": False}),
            ({"place": -1}, InvalidNumber, {"value": -1}),
        ])
        # TooMany is last.
        self.fails(InvalidNumber, {"value": True}, EVEN.string_at, 201, True)
        for action in (EVEN.goes, EVEN.place_of):
            self.fails_for_all(InvalidWord, WRONG_STRINGS, action)
        self.fails(TooMany, {"what": "letters", "limit": 200}, EVEN.place_of, "b" * 201)
        # Also if it does not let the string.
        self.fails(TooMany, {"what": "letters", "limit": 200}, ENDS.place_of, "a" * 201)
        self.fails(InvalidWord, {}, EVEN.place_of, "b" * 201 + "c")
        self.assertEqual(2 ** 199 - 1, EVEN.place_of("b" * 200))
        self.assertEqual(0, EVEN.goes("b" * 500))

    def test_first_and_is_endless(self):
        found = [0, 0]
        for letters, rows, letting in drawn(740, 200, 5):
            machine = Machine(letters, rows, letting)
            let = [string for string in strings(letters, 5) if lets(letters, rows, letting, string)]
            self.assertEqual(let[0] if let else None, machine.first())
            # Who lets a string of at least so many letters as there are standings goes round somewhere.
            size = len(rows)
            endless = any(machine.count(more) for more in range(size, 2 * size))
            found[endless] += 1
            self.is_bool(endless, machine.is_endless())
        self.assertGreater(min(found), 20)

    def test_first_and_is_endless_ordinary(self):
        self.assertEqual(["", "b", None], [EVEN.first(), ENDS.first(), (EVEN - EVEN).first()])
        # The shortest string is first, not the one that Python's order tells.
        self.assertEqual("b", Machine("ab", [[1, 2], [3, 3], [4, 4], [2, 2], [4, 4]], [2]).first())
        self.assertEqual([True, True, False], [EVEN.is_endless(), ENDS.is_endless(), (EVEN - EVEN).is_endless()])
        # A lap from which nothing is let does not count, and one that nothing lets but ends in it does.
        self.is_bool(False, Machine("a", [[1], [2], [2]], [0, 1]).is_endless())
        self.is_bool(True, Machine("ab", [[1, 0], [1, 1]], [0]).is_endless())
        self.is_bool(True, Machine("ab", [[0, 1], [2, 2], [2, 2]], [1]).is_endless())
        self.is_bool(False, Machine("ab", [[1, 1], [2, 3], [3, 3], [3, 3]], [0, 2]).is_endless())

    def test_what_is_told_is_new(self):
        for action in (lambda: EVEN.count(5), lambda: EVEN.string_at(5, 3), EVEN.first, EVEN.is_endless,
                       lambda: ~EVEN, lambda: EVEN & ENDS, lambda: EVEN.goes("ab"), lambda: EVEN.place_of("aab")):
            self.tells_anew(action)
        self.assertEqual([[1, 0], [0, 1]], EVEN.rows())


if __name__ == "__main__":
    unittest.main()
