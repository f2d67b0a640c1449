"""Fractions, and equations over integers: solutions, bars, ranks."""

from math import gcd

from walksback.basics import is_integer, is_list
from walksback.errors import InvalidMatrix, InvalidNumber, TooMany

MOST_ROWS = 12
MOST_COLUMNS = 12


class Ratio:
    """A fraction in lowest terms. A Ratio never changes."""

    def __init__(self, above, below=1):
        if not is_integer(above):
            raise InvalidNumber(above)
        if not is_integer(below) or below == 0:
            raise InvalidNumber(below)
        divisor = gcd(above, below) if below > 0 else -gcd(above, below)
        self._above = above // divisor
        self._below = below // divisor

    @property
    def above(self):
        """The number above the stroke."""
        return self._above

    @property
    def below(self):
        """The number below the stroke: at least 1."""
        return self._below

    def pair(self):
        """The FRACTION: the tuple (above, below)."""
        return self._above, self._below

    @classmethod
    def of(cls, value):
        """The Ratio of a FRACTION."""
        if not is_fraction(value):
            raise InvalidNumber(value)
        return cls(value[0], value[1])

    def over(self, other):
        """This Ratio divided by another one, or by an INTEGER."""
        ratio = ratio_of(other)
        if ratio.above == 0:
            raise InvalidNumber(other)
        return Ratio(self._above * ratio.below, self._below * ratio.above)

    def __add__(self, other):
        ratio = ratio_of(other)
        return Ratio(self._above * ratio.below + ratio.above * self._below, self._below * ratio.below)

    def __radd__(self, other):
        return self + other

    def __sub__(self, other):
        return self + -ratio_of(other)

    def __rsub__(self, other):
        return ratio_of(other) - self

    def __mul__(self, other):
        ratio = ratio_of(other)
        return Ratio(self._above * ratio.above, self._below * ratio.below)

    def __rmul__(self, other):
        return self * other

    def __neg__(self):
        return Ratio(-self._above, self._below)

    def __eq__(self, other):
        return isinstance(other, Ratio) and self._above == other._above and self._below == other._below

    def __repr__(self):
        return f"Ratio({self._above}, {self._below})"


def ratio_of(value):
    """The value as a Ratio: InvalidNumber unless it is a Ratio or an INTEGER."""
    if isinstance(value, Ratio):
        return value
    return Ratio(value)


def is_fraction(value):
    """Whether any value is a tuple (above, below) of INTEGERS in lowest terms, below at least 1."""
    if not isinstance(value, tuple) or len(value) != 2 or not all([is_integer(number) for number in value]):
        return False
    return value[1] >= 1 and gcd(value[0], value[1]) == 1


def solution(rows, right):
    """For each row the FRACTION of it, all of which come together to the right side; None if there are none."""
    check_equations(rows, right)
    told = solved(echelon(rows, len(right)), ratios(right))
    return None if told is None else [ratio.pair() for ratio in told]


def bar(rows, right):
    """For each column a FRACTION by which each row sums to 0, and the right side does not; None if there are none."""
    check_equations(rows, right)
    leading = echelon(rows, len(right))[0]
    wanted = ratios(right)
    missed = first_missed(leading, wanted)
    if missed is None:
        return None
    told = [Ratio(1) if column == missed else Ratio(0) for column in range(len(right))]
    for column, row in leading:
        told[column] = Ratio(-row[missed], row[column])
    return [ratio.pair() for ratio in told]


def rank(rows):
    """The dimension of what the rows span."""
    check_rows(rows)
    check_sizes(rows)
    return len(echelon(rows, len(rows[0]))[0])


def check_equations(rows, right):
    """Raises the errors of what is passed as rows and a right side."""
    check_rows(rows)
    if not is_row(right, len(rows[0])):
        raise InvalidMatrix(right)
    check_sizes(rows)


def check_rows(rows):
    """Raises InvalidMatrix unless these are rows of equations."""
    if not is_list(rows) or len(rows) == 0 or not is_list(rows[0]) or len(rows[0]) == 0:
        raise InvalidMatrix(rows)
    if not all([is_row(row, len(rows[0])) for row in rows]):
        raise InvalidMatrix(rows)


def is_row(value, columns):
    """Whether any value is a list of so many INTEGERS."""
    return is_list(value) and len(value) == columns and all([is_integer(number) for number in value])


def check_sizes(rows):
    """Raises TooMany for more rows or columns than may be passed."""
    if len(rows) > MOST_ROWS:
        raise TooMany("rows", MOST_ROWS)
    if len(rows[0]) > MOST_COLUMNS:
        raise TooMany("columns", MOST_COLUMNS)


def ratios(numbers):
    """The list of the INTEGERS as Ratios."""
    return [Ratio(number) for number in numbers]


def echelon(rows, columns):
    """
    The rows mixed: the list of the tuples (column, row) of those that lead, each with a number other than 0 in its
    column, where the other ones have 0, and the list of those of which nothing is left but 0.
    Behind its columns each mixed row has as many numbers as there are rows: how often it has each of them.
    """
    left = [[*row, *[1 if at == number else 0 for at in range(len(rows))]] for number, row in enumerate(rows)]
    leading = []
    for column in range(columns):
        filled = [row[column] != 0 for row in left]
        if any(filled):
            chosen = left.pop(filled.index(True))
            left = [cleared(row, chosen, column) for row in left]
            leading = [(at, cleared(row, chosen, column)) for at, row in leading]
            leading.append((column, chosen))
    return leading, left


def cleared(row, chosen, column):
    """The row, mixed with the chosen one such that it has 0 in the column, without a common divisor."""
    mixed = [chosen[column] * number - row[column] * other for number, other in zip(row, chosen)]
    divisor = 0
    for number in mixed:
        divisor = gcd(divisor, number)
    return [number // divisor for number in mixed]


def shares(leading, wanted):
    """How often each leading row is taken, for what is wanted in the columns that lead."""
    return [wanted[column].over(row[column]) for column, row in leading]


def total(leading, taken, column):
    """What stands in the column of the leading rows together, each so often taken."""
    return sum([share * pair[1][column] for share, pair in zip(taken, leading)], start=Ratio(0))


def first_missed(leading, wanted):
    """The first column in which the rows cannot come to what is wanted; None without any."""
    taken = shares(leading, wanted)
    missed = [column for column in range(len(wanted)) if total(leading, taken, column) != wanted[column]]
    return missed[0] if missed else None


def solved(mixed, wanted):
    """How often each row, by the echelon of all, is taken to come together to what is wanted; None if it cannot be."""
    leading, left = mixed
    if first_missed(leading, wanted) is not None:
        return None
    taken = shares(leading, wanted)
    rows = len(leading) + len(left)
    return [total(leading, taken, len(wanted) + number) for number in range(rows)]
