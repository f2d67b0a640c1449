"""walksback.fractions: Ratios, fractions, equations: solutions, bars, ranks."""

import itertools
import unittest
from fractions import Fraction
from math import gcd
from unittest.mock import ANY

from support import STRANGE, Case, is_plain, seeded
from walksback.errors import InvalidMatrix, InvalidNumber, TooMany
from walksback.fractions import Ratio, bar, is_fraction, rank, solution
from walksback.lots import Lot

GREAT = 10 ** 29 + 7
# No INTEGERS; the integers among the STRANGE values are numbers like others.
NO_NUMBERS = tuple(value for value in STRANGE if isinstance(value, bool) or not isinstance(value, int)) + (
    "1", [1], (1,), (1, 2), {1: 2}, Lot(["a"]), ANY)
SOME = [0, 1, -1, 2, -2, 3, 4, 6, -9, 12, GREAT, -GREAT, 10 ** 20]


def as_fraction(ratio):
    """Python's own fraction of a Ratio."""
    return Fraction(ratio.above, ratio.below)


def some_ratios():
    """Some Ratios beside Python's own fractions of the same numbers."""
    return [(Ratio(above, below), Fraction(above, below)) for above in SOME for below in SOME if below != 0]


class RatioTest(Case):
    def same(self, expected, found):
        """The Ratio is Python's own fraction, in lowest terms."""
        self.assertIs(Ratio, type(found))
        self.assertEqual((expected.numerator, expected.denominator), (found.above, found.below))
        self.assertTrue(is_plain([found.above, found.below]))

    def test_ordinary(self):
        self.assertEqual([1, 2, (1, 2)], [Ratio(2, 4).above, Ratio(2, 4).below, Ratio(2, 4).pair()])
        self.assertEqual(["Ratio(-1, 2)", "Ratio(0, 1)", "Ratio(3, 1)"],
                         [repr(Ratio(3, -6)), repr(Ratio(0, -7)), repr(Ratio(3))])
        self.assertEqual(Ratio(1, 6), (1 - Ratio(1, 2)).over(3))
        self.assertEqual(Ratio(1, 2), Ratio(above=2, below=4))
        self.assertEqual(Ratio(5, 6), Ratio(1, 2) + Ratio(1, 3))
        self.assertEqual(Ratio(1, 6), Ratio(1, 2) - Ratio(1, 3))
        self.assertEqual(Ratio(-1, 2), Ratio(1, 2) - 1)
        self.assertEqual(Ratio(3, 2), Ratio(1, 2) * 3)
        self.assertEqual(Ratio(3, 2), 3 * Ratio(1, 2))
        self.assertEqual(Ratio(3, 2), Ratio(1, 2).over(Ratio(1, 3)))
        self.assertEqual(Ratio(3, 2), Ratio(1, 2).over(other=Ratio(1, 3)))
        self.assertEqual(Ratio(-1, 2), -Ratio(1, 2))

    def test_lowest_terms_and_signs(self):
        for ratio, fraction in some_ratios():
            self.same(fraction, ratio)
            self.assertEqual((fraction.numerator, fraction.denominator), ratio.pair())
            self.assertIs(tuple, type(ratio.pair()))
            self.assertEqual(f"Ratio({fraction.numerator}, {fraction.denominator})", repr(ratio))
            self.assertEqual(ratio, Ratio.of(ratio.pair()))
            self.same(-fraction, -ratio)

    def test_operators(self):
        some = some_ratios()[::3]
        for (one, first), (other, second) in itertools.product(some, some):
            self.same(first + second, one + other)
            self.same(first - second, one - other)
            self.same(first * second, one * other)
            if second != 0:
                self.same(first / second, one.over(other))
            self.is_bool(first == second, one == other)
            self.is_bool(first != second, one != other)

    def test_operators_with_integers_on_either_side(self):
        for ratio, fraction in some_ratios():
            for number in SOME:
                self.same(fraction + number, ratio + number)
                self.same(number + fraction, number + ratio)
                self.same(fraction - number, ratio - number)
                self.same(number - fraction, number - ratio)
                self.same(fraction * number, ratio * number)
                self.same(number * fraction, number * ratio)
                if number != 0:
                    self.same(fraction / number, ratio.over(number))

    def test_no_ratio_equals_an_integer(self):
        for value in (1, True, 1.0, (1, 1), "Ratio(1, 1)", None, Fraction(1), [1, 1]):
            self.is_bool(False, Ratio(1) == value)
            self.is_bool(False, value == Ratio(1))
            self.is_bool(True, Ratio(1) != value)
        self.is_bool(False, Ratio(0) == 0)
        self.is_bool(False, Ratio(0) == False)  # noqa: E712
        self.is_bool(True, Ratio(2, 4) == Ratio(1, 2))
        self.is_bool(False, Ratio(1, 2) == Ratio(1, 3))
        self.is_bool(False, Ratio(1, 2) == Ratio(3, 2))

    def test_wrong_values_of_the_constructor(self):
        self.fails_for_all(InvalidNumber, NO_NUMBERS, Ratio)
        self.fails_for_all(InvalidNumber, NO_NUMBERS + (0, Ratio(1, 2)), lambda value: Ratio(1, value))
        self.fails(InvalidNumber, {"value": "a"}, Ratio, "a", 0)
        self.fails(InvalidNumber, {"value": 0}, Ratio, 0, 0)
        half = Ratio(1, 2)
        self.fails(InvalidNumber, {"value": half}, Ratio, half)
        self.fails(InvalidNumber, {"value": True}, Ratio, True, 1)
        self.fails(InvalidNumber, {"value": True}, Ratio, 1, True)
        self.fails(InvalidNumber, {"value": False}, Ratio, 1, False)

    def test_wrong_values_on_either_side(self):
        half = Ratio(1, 2)
        wrong = [value for value in NO_NUMBERS if value is not ANY and not isinstance(value, Lot)]
        for action in (lambda value: half + value, lambda value: half - value, lambda value: half * value, half.over):
            self.fails_for_all(InvalidNumber, NO_NUMBERS, action)
        for action in (lambda value: value + half, lambda value: value - half, lambda value: value * half):
            self.fails_for_all(InvalidNumber, wrong, action)
        self.fails(InvalidNumber, {"value": 0}, half.over, 0)
        zero = Ratio(0, 5)
        self.fails(InvalidNumber, {"value": zero}, half.over, zero)
        self.fails(InvalidNumber, {"value": False}, half.over, False)
        self.fails(InvalidNumber, {"value": True}, lambda: True + half)
        self.fails(InvalidNumber, {"value": True}, lambda: half * True)
        self.assertEqual("Ratio(1, 2)", repr(half))

    def test_of(self):
        self.assertEqual(Ratio(-1, 2), Ratio.of((-1, 2)))
        self.assertEqual(Ratio(0), Ratio.of(value=(0, 1)))
        wrong = tuple(value for value in NO_NUMBERS if value is ANY or value != (1, 2)) + (
            1, 0, (2, 4), (1, -2), (0, 2), (0, 0), (1, 0), [1, 2], (1, True), (True, 1), (1,), (1, 2, 3), (1, None),
            ("1", "2"), Ratio(1, 2), (0, -1), (GREAT, GREAT), (ANY, ANY),
        )
        self.fails_for_all(InvalidNumber, wrong, Ratio.of)

    def test_a_ratio_never_changes(self):
        one, other = Ratio(1, 2), Ratio(3, 4)
        for action in (lambda: one + other, lambda: one - other, lambda: one * other, lambda: -one, one.pair,
                       lambda: one.over(other), lambda: 2 - one):
            self.assertEqual(action(), action())
        self.assertEqual(["Ratio(1, 2)", "Ratio(3, 4)"], [repr(one), repr(other)])
        for name in ("above", "below"):
            with self.assertRaises(AttributeError):
                setattr(one, name, 7)


class IsFractionTest(Case):
    def test_all_small_pairs(self):
        for above, below in itertools.product(range(-7, 8), repeat=2):
            right = below >= 1 and gcd(above, below) == 1
            self.is_bool(right, is_fraction((above, below)))
            self.is_bool(False, is_fraction([above, below]))
        self.is_bool(True, is_fraction(value=(GREAT, GREAT - 1)))
        self.is_bool(False, is_fraction((2 * GREAT, GREAT)))

    def test_any_value(self):
        for value in STRANGE + ((1,), (1, 2, 3), (True, 1), (1, True), (False, 1), (0, True), (None, 1), ("1", "2"),
                                Ratio(1, 2), 1, "1/2", {1: 2}, ((1, 2),), (ANY, 1), (1, ANY), ANY):
            self.is_bool(False, is_fraction(value), value)


def some_rows(source, rows, columns, most):
    """Rows of INTEGERS, drawn from a seeded source; some of them hang together."""
    told = [[source.randint(-most, most) for _ in range(columns)] for _ in range(rows)]
    if rows > 2 and source.randint(0, 1):
        told[source.randrange(rows)] = [2 * one - 3 * other for one, other in zip(told[0], told[1])]
    if source.randint(0, 3) == 0:
        told[source.randrange(rows)] = [0] * columns
    return told


def rank_of(rows):
    """The dimension of what the rows span, by Python's own fractions."""
    left = [[Fraction(number) for number in row] for row in rows]
    told = 0
    for column in range(len(rows[0])):
        chosen = next((row for row in left if row[column] != 0), None)
        if chosen is None:
            continue
        left = [[number - other * row[column] / chosen[column] for number, other in zip(row, chosen)]
                for row in left if row is not chosen]
        told += 1
    return told


class EquationsTest(Case):
    def right_solution(self, rows, right, told):
        """The FRACTIONS, one for each row, come together to the right side."""
        self.assertIs(list, type(told))
        self.assertEqual(len(rows), len(told))
        self.assertTrue(all(is_fraction(value) for value in told))
        sums = [sum(Fraction(*value) * row[column] for value, row in zip(told, rows)) for column in range(len(right))]
        self.assertEqual(list(right), sums)

    def right_bar(self, rows, right, told):
        """Each row, by the FRACTIONS of the columns, sums to 0, and the right side does not."""
        self.assertIs(list, type(told))
        self.assertEqual(len(right), len(told))
        self.assertTrue(all(is_fraction(value) for value in told))
        for row in rows:
            self.assertEqual(0, sum(Fraction(*value) * number for value, number in zip(told, row)))
        self.assertNotEqual(0, sum(Fraction(*value) * number for value, number in zip(told, right)))

    def just_one(self, rows, right):
        """There is a solution or a bar, never both; whether it is a solution."""
        one, other = solution(rows, right), bar(rows, right)
        if one is None:
            self.right_bar(rows, right, other)
        else:
            self.assertIs(None, other)
            self.right_solution(rows, right, one)
        return one is not None

    def test_ordinary(self):
        self.assertEqual([(1, 2), (1, 3)], solution([[2, 0], [0, 3]], [1, 1]))
        self.assertIs(None, solution([[1, 1]], [1, 2]))
        self.assertIs(None, bar([[2, 0], [0, 3]], [1, 1]))
        self.right_bar([[1, 1]], [1, 2], bar([[1, 1]], [1, 2]))
        self.right_bar([[1, 1]], [1, 2], bar(rows=((1, 1),), right=(1, 2)))
        self.right_solution([[2, 4]], [3, 6], solution(rows=((2, 4),), right=(3, 6)))
        self.assertEqual([1, 2, 0], [rank([[1, 1], [2, 2]]), rank(rows=[[1, 1], [2, 3]]), rank([[0, 0]])])

    def test_small_ones(self):
        self.assertTrue(self.just_one([[0]], [0]))
        self.assertFalse(self.just_one([[0]], [5]))
        self.assertTrue(self.just_one([[7]], [-3]))
        self.assertTrue(self.just_one([[0, 0], [0, 0]], [0, 0]))
        self.assertFalse(self.just_one([[0, 0], [0, 0]], [0, 1]))
        self.assertTrue(self.just_one([[1], [2], [3]], [5]))

    def test_all_of_two_rows_and_columns(self):
        for numbers in itertools.product((-1, 0, 2), repeat=6):
            self.just_one([numbers[:2], numbers[2:4]], numbers[4:])
            self.assertEqual(rank_of([numbers[:2], numbers[2:4]]), rank([numbers[:2], numbers[2:4]]))

    def test_of_each_equations_just_one(self):
        source = seeded(350)
        found = {True: 0, False: 0}
        for turn in range(400):
            rows = some_rows(source, source.randint(1, 6), source.randint(1, 6), source.choice((1, 2, 9)))
            right = [source.randint(-3, 3) for _ in rows[0]]
            if turn % 2:
                taken = [source.randint(-2, 2) for _ in rows]
                right = [sum(times * row[column] for times, row in zip(taken, rows)) for column in range(len(right))]
            told = self.just_one(rows, right)
            found[told] += 1
            self.assertTrue(told or turn % 2 == 0)
            self.assertEqual(rank_of(rows), rank(rows))
            self.assertEqual(told, rank_of(rows) == rank_of([*rows, right]))
        self.assertGreater(min(found.values()), 60)

    def test_12_rows_and_columns(self):
        source = seeded(351)
        for rows, columns in (12, 12), (12, 1), (1, 12), (12, 5), (5, 12):
            some = some_rows(source, rows, columns, 9)
            self.just_one(some, [source.randint(-9, 9) for _ in range(columns)])
            self.assertEqual(rank_of(some), rank(some))

    def test_great_numbers(self):
        source = seeded(352)
        for size in (3, 8, 12):
            rows = [[source.randint(-(10 ** 29), 10 ** 29) for _ in range(size)] for _ in range(size)]
            right = [source.randint(-(10 ** 29), 10 ** 29) for _ in range(size)]
            self.assertTrue(self.just_one(rows, right))
            rows[-1] = [one + other for one, other in zip(rows[0], rows[1])]
            self.assertFalse(self.just_one(rows, right))
            self.assertEqual(size - 1, rank(rows))

    def test_tuples_as_lists(self):
        rows = [[1, 2, 3], [4, 5, 6]]
        self.assertEqual(solution(rows, [5, 7, 9]), solution(tuple(map(tuple, rows)), (5, 7, 9)))
        self.assertEqual(bar(rows, [5, 7, 8]), bar(tuple(map(tuple, rows)), (5, 7, 8)))
        self.assertEqual(2, rank(tuple(map(tuple, rows))))

    def test_wrong_rows(self):
        wrong = STRANGE + ([[1], [1, 2]], [[1, 2], [1]], [[1, 2], []], [[]], [[], []], [1, 2], [[1, "2"]], [[True]],
                           [[1, False]], [[1, None]], [[1], None], {0: [1]}, [{0: 1}], [[[1]]], "12", [["1"]], 1,
                           Lot(["a"]), [[1, Ratio(1)]], [[(1, 1)]], [[1], "1"], [[1, 2], {0: 1, 1: 2}], [[ANY]], [ANY])
        for right in ([1, 1], None, [1] * 13):
            self.fails_for_all(InvalidMatrix, wrong, lambda value: solution(value, right))
            self.fails_for_all(InvalidMatrix, wrong, lambda value: bar(value, right))
        self.fails_for_all(InvalidMatrix, wrong, rank)

    def test_wrong_right_sides(self):
        wrong = STRANGE + ([1], [1, 2, 3], [1, None], [1, True], [False, 1], ["1", "2"], [[1, 2]], {0: 1, 1: 2}, "12",
                           1, (1,), [1, (1, 1)], [1, Ratio(1)], Lot(["a"]), [1, [2]], [ANY, 1], ANY)
        for action in (solution, bar):
            self.fails_for_all(InvalidMatrix, wrong, lambda value: action([[1, 2]], value))
            self.fails_for_all(InvalidMatrix, wrong, lambda value: action([[1, 2]] * 13, value))

    def test_13_rows_and_columns(self):
        for action in (solution, bar):
            self.fails(TooMany, {"what": "rows", "limit": 12}, action, [[1]] * 13, [1])
            self.fails(TooMany, {"what": "columns", "limit": 12}, action, [[1] * 13], [1] * 13)
            self.fails(TooMany, {"what": "rows", "limit": 12}, action, [[1] * 13] * 13, [1] * 13)
            self.fails(TooMany, {"what": "rows", "limit": 12}, action, [[1] * 14] * 20, [1] * 14)
            # What is wrong comes ahead of what is too many.
            self.fails(InvalidMatrix, {}, action, [[1] * 13] * 13, [1] * 12)
            self.fails(InvalidMatrix, {}, action, [[1] * 13] * 12 + [[1] * 12], [1] * 13)
        self.fails(TooMany, {"what": "rows", "limit": 12}, rank, [[1]] * 13)
        self.fails(TooMany, {"what": "columns", "limit": 12}, rank, [[1] * 13])
        self.fails(TooMany, {"what": "rows", "limit": 12}, rank, [[1] * 13] * 13)
        self.assertEqual(1, rank([[1] * 12] * 12))

    def test_the_sequence_of_the_errors(self):
        for action in (solution, bar):
            self.sequence(action, {"rows": [[1, 2]], "right": [3, 4]}, [
                ({"rows": [[1, 2], [1]]}, InvalidMatrix, {}),
                ({"right": [1, 2, 3]}, InvalidMatrix, {}),
                ({"rows": [[1, 2]] * 13}, TooMany, {"what": "rows", "limit": 12}),
            ])

    def test_what_is_told_is_new(self):
        self.tells_anew(lambda: solution([[2, 0], [0, 3]], [1, 1]))
        self.tells_anew(lambda: bar([[1, 1]], [1, 2]))
        self.leaves(([[2, 0], [0, 3], [1, 1]], [1, 1]), solution)
        self.leaves(([[1, 1], [2, 2]], [1, 2]), bar)
        self.leaves(([[1, 1], [2, 2]],), rank)


if __name__ == "__main__":
    unittest.main()
