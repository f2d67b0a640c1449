"""walksback.counting: count papers, freedoms, and what all papers tell."""

import unittest
from fractions import Fraction
from unittest.mock import ANY

from support import STRANGE, Case, is_plain, seeded, some_ties, some_word, some_words
from walksback.answers import counts
from walksback.answers import kept as kept_answers
from walksback.counting import count_paper, freedom, is_count_paper, told_many, told_many_from
from walksback.errors import InvalidKept, InvalidNode, InvalidPlan, InvalidWord, NoMatrices, NotSettled, TooMany
from walksback.fractions import is_fraction
from walksback.graphs import Graph
from walksback.lots import Lot
from walksback.plans import plan_at
from walksback.places import bridges
from walksback.settled import plan

LOT = Lot(["ab", "b", "bc"])
LESS = Lot(["ab", "bc"])
PLAN = [(0, "ab", 2), (2, "b", 1), (1, "bc", 3)]
GRAPH = Graph(4, [(0, "a", 1, 2), (1, "b", 2, 3), (2, "c", 3, 4)])
KEPT = kept_answers(GRAPH, LOT, "many")
ONE = {"ab": [[1]], "b": [[1]], "bc": [[1]]}
WRONG_QUESTIONS = STRANGE + ("a" * 25, 0, 1, ["a"], ("a", "b"), Lot(["a"]))
WRONG_PLANS = tuple(value for value in STRANGE if value is not None) + (
    PLAN[:2], PLAN[1:], PLAN[::-1], [list(step) for step in PLAN], [(0, "abc", 3)], [*PLAN, None], PLAN[0], "abc",
    [(False, "ab", 2), *PLAN[1:]], [(0, "ab", 2), (2, "b", True), (True, "bc", 3)], {0: PLAN}, [PLAN], 0, LOT,
)
WRONG_KEPT = STRANGE + (
    {"ab": [[1]], "b": [[1]]}, {**ONE, "a": [[1]]}, {**ONE, "b": None}, {**ONE, "b": [[True]]}, {**ONE, "b": [[False]]},
    {**ONE, "b": [[-1]]}, {**ONE, "b": [[None]]}, {**ONE, "b": [["1"]]}, {**ONE, "b": [1]}, {**ONE, "b": [[1, 1]]},
    {**ONE, "b": [[1, 0], [0, 1]]}, {**ONE, "ab": [[1, 0], [0, 1]]}, {**ONE, "bc": [[1, 0], [0, 1]]}, {**ONE, "b": []},
    {word: [] for word in LOT}, {word: [[]] for word in LOT}, {"ab": [[1]], "b": [[1]], True: [[1]]},
    {"ab": [[1]], "b": [[1]], None: [[1]]}, {"ab": [[1]], "b": [[1]], "BC": [[1]]}, [("ab", [[1]])], LOT, GRAPH, 0,
    {**ONE, "b": {0: [1]}}, {**ONE, "b": [{0: 1}]}, {**ONE, "b": [(0, 0)]}, {**ONE, "b": [[[1]]]}, {**ONE, "b": "1"},
    {word: [[0] * 121 for _ in range(121)] for word in LOT}, {**ONE, "b": [[1], [1]]}, {**ONE, "b": [[(1, 1)]]},
    {**ONE, "b": [[ANY]]}, {**ONE, "b": [ANY]}, {**ONE, "b": ANY}, {**ONE, "ab": None}, {**ONE, "ab": "1"},
)


def as_fractions(matrix):
    return [[Fraction(*value) for value in row] for row in matrix]


def times(one, other):
    """The product of two matrices."""
    return [[sum(row[z] * other[z][y] for z in range(len(other))) for y in range(len(other))] for row in one]


def is_right(steps, kept, value):
    """Whether matrices of FRACTIONS are a count paper, by its sums."""
    matrices = [as_fractions(matrix) for matrix in value]
    nodes = len(matrices[0])
    if matrices[0] != [[int(x == y) for y in range(nodes)] for x in range(nodes)]:
        return False
    for at, (begin, word, end) in enumerate(steps):
        ahead, behind = matrices[at], matrices[at + 1]
        if begin < end and behind != times(ahead, kept[word]):
            return False
        if begin > end and ahead != times(behind, kept[word]):
            return False
    return True


def reduced(rows, columns):
    """The rows of Fractions in reduced echelon form, without those of 0 alone: tuples (column, row)."""
    left = [[Fraction(number) for number in row] for row in rows]
    told = []
    for column in range(columns):
        at = next((at for at, row in enumerate(left) if row[column] != 0), None)
        if at is None:
            continue
        chosen = left.pop(at)
        chosen = [number / chosen[column] for number in chosen]
        left = [[number - row[column] * other for number, other in zip(row, chosen)] for row in left]
        told = [(place, [number - row[column] * other for number, other in zip(row, chosen)]) for place, row in told]
        told.append((column, chosen))
    return told, left


def equations(steps, kept, nodes, first):
    """
    One equation for each column of each step, over the numbers of all rows behind the steps, one behind another:
    the coefficients, and behind them what they come to, if the row ahead of all steps is the first one.
    """
    width = nodes * len(steps)
    told = []
    for at, (begin, word, end) in enumerate(steps):
        for y in range(nodes):
            row = [0] * (width + 1)
            for z in range(nodes):
                here, there = (at, at - 1) if begin > end else (at - 1, at)
                # The row `here`, times the kept matrix, is the row `there`.
                if here >= 0:
                    row[here * nodes + z] += kept[word][z][y]
                else:
                    row[-1] -= first[z] * kept[word][z][y]
            if there >= 0:
                row[there * nodes + y] -= 1
            else:
                row[-1] += first[y]
            told.append(row)
    return told


def by_all_equations(steps, kept, nodes, first):
    """(whether there are rows behind all steps, the last one if all are alike, else None), by all equations at once."""
    width = nodes * len(steps)
    # The last columns are looked at last, so that a leading one there hangs on no column ahead of it.
    leading, left = reduced(equations(steps, kept, nodes, first), width)
    if any(row[-1] != 0 for row in left):
        return False, None
    by_column = dict(leading)
    last = []
    for column in range(width - nodes, width):
        if column not in by_column or any(number != 0 for number in by_column[column][column + 1:-1]):
            return True, None
        last.append(by_column[column][-1])
    return True, last


def freedom_by_all_equations(steps, kept, nodes):
    """The freedom behind all of the steps: the dimension of the last rows, where the first one is 0."""
    width = nodes * len(steps)
    if width == 0:
        return 0
    leading, _ = reduced(equations(steps, kept, nodes, [0] * nodes), width)
    led = dict(leading)
    free = [column for column in range(width) if column not in led]
    ways = []
    for column in free:
        way = [Fraction(0)] * width
        way[column] = Fraction(1)
        for place, row in leading:
            way[place] = -row[column]
        ways.append(way[width - nodes:])
    return len(reduced(ways, nodes)[0]) if ways else 0


def some_plan(source, lot, question):
    """A plan, perhaps with a circle, drawn from a seeded source; None if there is none."""
    told = plan(lot, question)
    if told is None:
        return None
    begin, end, word = source.choice(bridges(lot, question))
    at = source.randint(0, len(told))
    place = told[at][0] if at < len(told) else len(question)
    if begin == place:
        return [*told[:at], (begin, word, end), (end, word, begin), *told[at:]]
    if end == place:
        return [*told[:at], (end, word, begin), (begin, word, end), *told[at:]]
    return told


def drawn(number, rounds=80):
    """Tuples (lot, question, steps, nodes, kept, graph or None), with matrices of graphs and of no graph."""
    source = seeded(number)
    made = 0
    while made < rounds:
        question = some_word(source, "a" if made % 2 else "ab", 6)
        words = set(some_words(source, "ab", 1, 2))
        for _ in range(source.randint(1, 3)):
            begin = source.randrange(len(question))
            words.add(question[begin:begin + source.randint(1, 4)])
        lot = Lot(sorted(words))
        if made % 4 == 1:
            # Plans that go back for good, not just in a circle.
            lot, question = source.choice(((LOT, "abc"), (Lot(["aaa", "aaaa"]), "a" * 5),
                                           (Lot(["aaa", "aaaaa"]), "a" * 7)))
        steps = some_plan(source, lot, question)
        if steps is None or (made % 3 and all(begin < end for begin, _, end in steps)):
            continue
        made += 1
        nodes = source.randint(1, 3)
        graph = None
        if made % 2:
            graph = Graph(nodes, some_ties(source, nodes, "ab", 8))
            kept = kept_answers(graph, lot, "many")
        else:
            kept = {word: [[source.choice((0, 0, 1, 1, 2, 3)) for _ in range(nodes)] for _ in range(nodes)]
                    for word in lot}
        yield lot, question, steps, nodes, kept, graph
    yield LOT, "abc", PLAN, 4, KEPT, GRAPH


class ToldManyTest(Case):
    def test_ordinary(self):
        self.assertEqual([0, 0, 0, 1], told_many_from(LOT, "abc", KEPT, 0))
        self.assertEqual([0, 0, 3, 0], freedom(LOT, "abc", KEPT))
        self.assertEqual(counts(GRAPH, "abc"), told_many(LOT, "abc", KEPT))
        self.assertEqual(counts(GRAPH, "abc"), told_many(lot=LOT, question="abc", kept=KEPT, plan=PLAN))
        self.assertEqual([0, 0, 0, 1], told_many_from(lot=LOT, question="abc", kept=KEPT, node=0, plan=PLAN))
        self.assertEqual([0, 0, 3, 0], freedom(lot=LOT, question="abc", kept=KEPT, plan=PLAN))
        self.assertEqual([[6]], told_many(LOT, "abc", {"ab": [[4]], "b": [[2]], "bc": [[3]]}))

    def test_each_plan_tells_the_matrix_of_each_graph(self):
        for lot, question, steps, nodes, kept, graph in drawn(360):
            if graph is None:
                continue
            for some in (None, steps, tuple(steps), plan_at(lot, question, 0)):
                told = told_many(lot, question, kept, some)
                self.assertEqual(counts(graph, question), told)
                self.assertTrue(is_plain(told))
                for node in range(nodes):
                    self.assertEqual(told[node], told_many_from(lot, question, kept, node, some))

    def test_against_all_equations(self):
        seen = {"none": 0, "unlike": 0, "told": 0, "fractions": 0}
        for lot, question, steps, nodes, kept, _ in drawn(361, 200):
            lasts = []
            rows = []
            for node in range(nodes):
                first = [int(y == node) for y in range(nodes)]
                found, last = by_all_equations(steps, kept, nodes, first)
                lasts.append(found)
                good = last is not None and all(number.denominator == 1 and number >= 0 for number in last)
                seen["none" if not found else "unlike" if last is None else "told" if good else "fractions"] += 1
                if good:
                    self.assertEqual(last, told_many_from(lot, question, kept, node, steps))
                    rows.append(last)
                else:
                    self.fails(NoMatrices, {}, told_many_from, lot, question, kept, node, steps)
            if len(rows) == nodes:
                self.assertEqual(rows, told_many(lot, question, kept, steps))
            else:
                self.fails(NoMatrices, {}, told_many, lot, question, kept, steps)
            if all(lasts):
                paper = count_paper(lot, question, kept, steps)
                self.assertTrue(is_right(steps, kept, paper))
                self.is_bool(True, is_count_paper(lot, question, kept, paper, steps))
                self.assertTrue(all(is_fraction(value) for matrix in paper for row in matrix for value in row))
            else:
                self.fails(NoMatrices, {}, count_paper, lot, question, kept, steps)
            self.assertEqual([freedom_by_all_equations(steps[:at], kept, nodes) for at in range(len(steps) + 1)],
                             freedom(lot, question, kept, steps))
        self.assertGreater(min(seen.values()), 5, seen)

    def test_no_matrices(self):
        # None: 1 ahead, but behind the step back there is only 0.
        none = {"ab": [[1]], "b": [[0]], "bc": [[1]]}
        # Unlike ones: behind the step back anything may stand.
        unlike = {"ab": [[0]], "b": [[0]], "bc": [[1]]}
        # FRACTIONS that are no INTEGERS; numbers below 0.
        half = {"ab": [[1]], "b": [[2]], "bc": [[1]]}
        below = {"ab": [[0, 1], [1, 0]], "b": [[1, 1], [1, 0]], "bc": [[1, 0], [0, 1]]}
        for kept in (none, unlike, half, below):
            self.fails(NoMatrices, {}, told_many, LOT, "abc", kept)
            self.fails(NoMatrices, {}, told_many, LOT, "abc", kept, PLAN)
        self.fails(NoMatrices, {}, count_paper, LOT, "abc", none)
        for kept in (unlike, half, below):
            paper = count_paper(LOT, "abc", kept)
            self.assertTrue(is_right(PLAN, kept, paper))
            self.is_bool(True, is_count_paper(LOT, "abc", kept, paper))
        self.assertEqual([0, 0, 1, 1], freedom(LOT, "abc", unlike))
        self.assertEqual([[[(1, 1)]], [[(1, 1)]], [[(1, 2)]], [[(1, 2)]]], count_paper(LOT, "abc", half))
        # b back over ab: the row of node 0 is (1, -1), that of node 1 is (0, 1).
        self.fails(NoMatrices, {}, told_many_from, LOT, "abc", below, 0)
        self.assertEqual([0, 1], told_many_from(LOT, "abc", below, 1))

    def test_rows_of_their_own(self):
        # Node 0 has a row; of node 1 there is none: the whole matrix is not told, the one row is.
        kept = {"ab": [[2, 0], [0, 1]], "b": [[1, 0], [0, 0]], "bc": [[3, 0], [0, 0]]}
        self.fails(NoMatrices, {}, told_many_from, LOT, "abc", kept, 1)
        self.fails(NoMatrices, {}, told_many, LOT, "abc", kept)
        self.fails(NoMatrices, {}, count_paper, LOT, "abc", kept)
        self.assertEqual([6, 0], told_many_from(LOT, "abc", kept, 0))
        # Of node 1 there is one with FRACTIONS: there is a paper, the matrix is not told, the row of node 0 is.
        kept = {"ab": [[2, 0], [0, 1]], "b": [[1, 0], [0, 2]], "bc": [[3, 0], [0, 1]]}
        self.assertEqual([6, 0], told_many_from(LOT, "abc", kept, 0))
        self.fails(NoMatrices, {}, told_many_from, LOT, "abc", kept, 1)
        self.fails(NoMatrices, {}, told_many, LOT, "abc", kept)
        self.assertEqual((1, 2), count_paper(LOT, "abc", kept)[3][1][1])

    def test_choices_that_a_later_step_back_bars(self):
        # Behind the first step back much may stand, but just some of it, times aa, goes back over the second one.
        lot = Lot(["aa", "a", "aaa"])
        steps = [(0, "aaa", 3), (3, "a", 2), (2, "aa", 4), (4, "a", 3), (3, "a", 4)]
        source = seeded(362)
        free = 0
        for nodes, turn in [(2, turn) for turn in range(150)] + [(3, turn) for turn in range(40)]:
            kept = {word: [[source.choice((0, 0, 1, 2)) for _ in range(nodes)] for _ in range(nodes)] for word in lot}
            firsts = [[int(x == y) for y in range(nodes)] for x in range(nodes)]
            if all([by_all_equations(steps, kept, nodes, first)[0] for first in firsts]):
                paper = count_paper(lot, "aaaa", kept, steps)
                self.assertTrue(is_right(steps, kept, paper))
                self.is_bool(True, is_count_paper(lot, "aaaa", kept, paper, steps))
                told = freedom(lot, "aaaa", kept, steps)
                free += told[2] > 0 and told[3] > 0
            else:
                self.fails(NoMatrices, {}, count_paper, lot, "aaaa", kept, steps)
        self.assertGreater(free, 10)
        # Of r and s behind the first step back (r, s) goes to (s, 0) by aa, which goes back over a only if s is 0.
        kept = {"aaa": [[1, 0], [0, 0]], "a": [[1, 0], [0, 0]], "aa": [[0, 1], [1, 0]]}
        paper = count_paper(lot, "aaaa", kept, steps[:3])
        self.assertTrue(is_right(steps[:3], kept, paper))
        self.fails(NoMatrices, {}, count_paper, lot, "aaaa", kept, steps)
        kept = {"aaa": [[1, 0], [0, 0]], "a": [[1, 0], [0, 0]], "aa": [[0, 1], [0, 1]]}
        self.assertEqual([(1, 1), (-1, 1)], count_paper(lot, "aaaa", kept, steps)[2][0])

    def test_8_and_9_nodes(self):
        source = seeded(363)
        graph = Graph(8, some_ties(source, 8, "abc", 40))
        kept = kept_answers(graph, LOT, "many")
        self.assertEqual(counts(graph, "abc"), told_many(LOT, "abc", kept))
        paper = count_paper(LOT, "abc", kept)
        self.assertTrue(is_right(PLAN, kept, paper))
        self.is_bool(True, is_count_paper(LOT, "abc", kept, paper))
        wide = kept_answers(Graph(9, graph.ties()), LOT, "many")
        told = {"what": "nodes", "limit": 8}
        for kept in (wide, {word: [[0] * 120 for _ in range(120)] for word in LOT}):
            self.fails(TooMany, told, told_many, LOT, "abc", kept)
            self.fails(TooMany, told, told_many_from, LOT, "abc", kept, 8)
            self.fails(TooMany, told, freedom, LOT, "abc", kept)
            self.fails(TooMany, told, count_paper, LOT, "abc", kept)
            self.fails(TooMany, told, is_count_paper, LOT, "abc", kept, None)
        self.fails(InvalidNode, {"value": 9}, told_many_from, LOT, "abc", wide, 9)

    def test_questions_of_24_letters(self):
        lot = Lot(["a" * 5, "a" * 7])
        graph = Graph(3, [(0, "a", 1, 0), (1, "a", 2, 0), (2, "a", 0, 0), (0, "a", 0, 0)])
        kept = kept_answers(graph, lot, "many")
        self.assertEqual(counts(graph, "a" * 24), told_many(lot, "a" * 24, kept))
        self.assertTrue(is_right(plan(lot, "a" * 24), kept, count_paper(lot, "a" * 24, kept)))

    def test_long_plans_and_great_numbers(self):
        steps = PLAN + [(3, "bc", 1), (1, "bc", 3)] * 20
        source = seeded(364)
        for kept in (KEPT, {word: [[source.randint(0, 10 ** 25) for _ in range(3)] for _ in range(3)] for word in LOT}):
            paper = count_paper(LOT, "abc", kept, steps)
            self.assertTrue(is_right(steps, kept, paper))
            self.is_bool(True, is_count_paper(LOT, "abc", kept, paper, steps))
            self.assertEqual(44, len(freedom(LOT, "abc", kept, steps)))


class CountPaperTest(Case):
    def test_what_is_told_is_new(self):
        self.tells_anew(lambda: count_paper(LOT, "abc", KEPT))
        self.tells_anew(lambda: freedom(LOT, "abc", KEPT))
        self.tells_anew(lambda: told_many(LOT, "abc", KEPT))
        self.tells_anew(lambda: told_many_from(LOT, "abc", KEPT, 0))
        paper = count_paper(LOT, "abc", KEPT)
        self.assertTrue(all(type(part) is list for part in (paper, paper[0], paper[0][0])))
        self.leaves((LOT, "abc", dict(KEPT), list(PLAN)), count_paper)
        self.leaves((LOT, "abc", dict(KEPT), paper, list(PLAN)), is_count_paper)
        self.leaves((LOT, "abc", dict(KEPT), 0, list(PLAN)), told_many_from)

    def test_lists_as_tuples(self):
        paper = count_paper(LOT, "abc", KEPT)
        some = tuple(tuple(tuple(row) for row in matrix) for matrix in paper)
        self.is_bool(True, is_count_paper(LOT, "abc", KEPT, some))
        self.is_bool(True, is_count_paper(lot=LOT, question="abc", kept=KEPT, value=some, plan=PLAN))
        kept = {word: tuple(tuple(row) for row in KEPT[word]) for word in ("bc", "b", "ab")}
        self.is_bool(True, is_count_paper(LOT, "abc", kept, paper, tuple(PLAN)))
        self.assertEqual(told_many(LOT, "abc", KEPT), told_many(LOT, "abc", kept))
        self.assertEqual(freedom(LOT, "abc", KEPT), freedom(LOT, "abc", kept))
        # FRACTIONS are tuples, and no lists.
        listed = [[[list(value) for value in row] for row in matrix] for matrix in paper]
        self.is_bool(False, is_count_paper(LOT, "abc", KEPT, listed))

    def changed(self, paper, at, x, y, value):
        """The paper with one FRACTION otherwise."""
        told = [[list(row) for row in matrix] for matrix in paper]
        told[at][x][y] = value
        return told

    def test_one_fraction_otherwise(self):
        kept = {"ab": [[0, 1], [2, 1]], "b": [[1, 1], [0, 2]], "bc": [[1, 0], [3, 1]]}
        paper = count_paper(LOT, "abc", kept)
        self.is_bool(True, is_count_paper(LOT, "abc", kept, paper))
        for at in range(4):
            for x in range(2):
                for y in range(2):
                    above, below = paper[at][x][y]
                    for value in ((above + below, below), (2 * above, 2 * below), (-above, -below), [above, below],
                                  (above, below, 1), above, None, (True, 1), (above, True), Fraction(above, below)):
                        some = self.changed(paper, at, x, y, value)
                        self.is_bool(False, is_count_paper(LOT, "abc", kept, some), value)

    def test_matrices_between_may_be_unlike(self):
        unlike = {"ab": [[0]], "b": [[0]], "bc": [[0]]}
        for value in ((0, 1), (1, 1), (-5, 3)):
            self.is_bool(True, is_count_paper(LOT, "abc", unlike, [[[(1, 1)]], [[(0, 1)]], [[value]], [[(0, 1)]]]))
        self.assertEqual([[0]], told_many(LOT, "abc", unlike))
        self.assertEqual([0, 0, 1, 0], freedom(LOT, "abc", unlike))

    def test_all_small_papers(self):
        lot = Lot(["a", "aa"])
        steps = [(0, "aa", 2), (2, "a", 1), (1, "a", 2)]
        values = [(0, 1), (1, 1), (1, 2), (2, 1), (-1, 1)]
        for kept in ({"a": [[2]], "aa": [[1]]}, {"a": [[0]], "aa": [[0]]}, {"a": [[1]], "aa": [[2]]}):
            for one in values:
                for two in values:
                    for three in values:
                        value = [[[(1, 1)]], [[one]], [[two]], [[three]]]
                        self.is_bool(is_right(steps, kept, value), is_count_paper(lot, "aa", kept, value, steps))

    def test_any_value(self):
        paper = count_paper(LOT, "abc", KEPT)
        wrong = (paper[:3], [*paper, paper[3]], paper[::-1], paper[0], {0: paper}, [paper], "paper", 0, LOT, GRAPH,
                 [*paper[:3], None], [*paper[:3], []], [*paper[:3], paper[3][:3]],
                 [*paper[:3], [row[:3] for row in paper[3]]], [*paper[:3], [*paper[3], paper[3][0]]],
                 [None, *paper[1:]], [*paper[:3], "1234"], [*paper[:3], [None] * 4], [paper[1], *paper[1:]],
                 [[[ANY] * 4] * 4] * 4, [ANY] * 4, ANY, [[[(ANY, ANY)] * 4] * 4] * 4)
        for value in STRANGE + wrong:
            self.is_bool(False, is_count_paper(LOT, "abc", KEPT, value), value)
            self.is_bool(False, is_count_paper(LOT, "abc", KEPT, value, PLAN), value)


class ErrorsTest(Case):
    def good(self, action):
        """Keyword arguments with which the action raises nothing."""
        told = {"lot": LOT, "question": "abc", "kept": KEPT, "plan": None}
        more = {told_many_from: {"node": 0}, is_count_paper: {"value": 0}}
        return {**told, **more.get(action, {})}

    def test_each_parameter(self):
        for action in (count_paper, is_count_paper, freedom, told_many, told_many_from):
            for name, error, values in (("question", InvalidWord, WRONG_QUESTIONS), ("kept", InvalidKept, WRONG_KEPT),
                                        ("plan", InvalidPlan, WRONG_PLANS)):
                for value in values:
                    self.fails(error, {"value": value}, action, **{**self.good(action), name: value})
        for value in STRANGE + (4, 5, 121, "0", [0], (0,), {0: 0}, LOT):
            self.fails(InvalidNode, {"value": value}, told_many_from, LOT, "abc", KEPT, value)

    def test_the_sequence_of_the_errors(self):
        wide = {word: [[0] * 9 for _ in range(9)] for word in LOT}
        less = {"ab": wide["ab"], "bc": wide["bc"]}
        word = ({"question": "1"}, InvalidWord, {"value": "1"})
        kept = ({"kept": {}}, InvalidKept, {})
        steps = ({"plan": []}, InvalidPlan, {})
        lacks = ({"lot": LESS, "kept": less}, NotSettled, {"value": "abc"})
        node = ({"node": 9}, InvalidNode, {"value": 9})
        many = ({"kept": wide}, TooMany, {"what": "nodes", "limit": 8})
        for action in (count_paper, is_count_paper, freedom, told_many):
            self.sequence(action, self.good(action), [word, kept, steps, many])
            self.sequence(action, self.good(action), [word, ({"kept": None}, InvalidKept, {}), lacks])
        self.sequence(told_many_from, self.good(told_many_from), [word, kept, steps, node, many])
        self.sequence(told_many_from, self.good(told_many_from), [word, lacks, node])
        # Of nine nodes, not settled: NotSettled, though nine are too many.
        self.fails(NotSettled, {"value": "abc"}, told_many, LESS, "abc", less)
        self.fails(InvalidPlan, {"value": PLAN}, told_many, LESS, "abc", less, PLAN)

    def test_kept_of_one_word(self):
        for kept in ({"a": []}, {"a": [[]]}, {"a": [[0] * 121] * 121}, {"a": None}, {"a": 0}, {"a": [[0], [0]]}):
            self.fails(InvalidKept, {"value": kept}, told_many, Lot(["a"]), "aa", kept)
        self.assertEqual([[4]], told_many(Lot(["a"]), "aa", {"a": [[2]]}))

    def test_kept_of_a_lot_without_words(self):
        for action in (count_paper, freedom, told_many):
            self.fails(NotSettled, {"value": "abc"}, action, Lot(), "abc", {})
            self.fails(InvalidPlan, {"value": PLAN}, action, Lot(), "abc", {}, PLAN)
            self.fails_for_all(InvalidKept, [ONE, [], None, {"a": [[1]]}], lambda kept: action(Lot(), "abc", kept))
        self.fails(NotSettled, {"value": "abc"}, told_many_from, Lot(), "abc", {}, 0)
        self.fails(NotSettled, {"value": "abc"}, is_count_paper, Lot(), "abc", {}, [])


if __name__ == "__main__":
    unittest.main()
