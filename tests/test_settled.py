"""walksback.settled: whether a lot settles a question, plans, distances, cuts."""

import itertools
import unittest

from support import STRANGE, Case, is_plain, seeded, some_ties, some_word, some_words
from walksback.answers import costs, pairs
from walksback.errors import InvalidPlace, InvalidWord
from walksback.graphs import Graph
from walksback.lots import Lot
from walksback.places import bridges, classes, joined_to
from walksback.settled import (
    cut, cut_count, distances, greatest_cut, is_cut, is_plan, is_settled, plan, steps_at,
)
from walksback.tables import back, cost_back, cost_product, product

LOT = Lot(["ab", "b", "bc"])
PLAN = [(0, "ab", 2), (2, "b", 1), (1, "bc", 3)]
WRONG_QUESTIONS = STRANGE + ("a" * 25, 0, 1, ["a"], ("a", "b"), Lot(["a"]), b"ab")


def all_steps(lot, question):
    """All steps of all places, sorted."""
    told = []
    for begin, end, word in bridges(lot, question):
        told += [(begin, word, end), (end, word, begin)]
    return sorted(told)


def shortest_plans(lot, question):
    """All plans of the fewest steps: all lists of steps that lead on from place 0 are tried, shorter ones first."""
    lists = [[]]
    for _ in range(len(question) + 1):
        found = [steps for steps in lists if steps and steps[-1][2] == len(question)]
        if found:
            return found
        lists = [[*steps, step] for steps in lists for step in all_steps(lot, question)
                 if step[0] == (steps[-1][2] if steps else 0)]
    return []


def least_plan(lot, question):
    """The least plan of the fewest steps, by the least lists of 1, 2, 3, .. steps from each place to the last one."""
    lists = {len(question): []}
    for _ in question:
        longer = {}
        for step in all_steps(lot, question):
            if step[2] in lists:
                steps = [step, *lists[step[2]]]
                longer[step[0]] = min(longer.get(step[0], steps), steps)
        if 0 in longer:
            return longer[0]
        lists = longer
    return None


def all_cuts(lot, question):
    """All cuts: all sets of places are tried."""
    size = len(question)
    told = []
    for number in range(size):
        for some in itertools.combinations(range(1, size), number):
            places = [0, *some]
            if all((begin in places) == (end in places) for begin, end, _ in bridges(lot, question)):
                told.append(places)
    return told


def drawn(number, rounds=120):
    """Lots and short questions, drawn from a seeded source."""
    source = seeded(number)
    for turn in range(rounds):
        letters = "a" if turn % 6 == 0 else "ab" if turn % 2 else "abc"
        yield Lot(some_words(source, letters, 4, 4)), some_word(source, letters, 7)
    yield Lot(), "a"
    yield Lot(), "abcabca"
    yield Lot(["aaa", "aaaa"]), "aaaaa"
    yield Lot(["a"]), "a"


class SettledTest(Case):
    def test_ordinary(self):
        self.is_bool(True, is_settled(LOT, "abc"))
        self.is_bool(False, is_settled(LOT - "b", "abc"))
        self.is_bool(True, is_settled(lot=Lot(["aaa", "aaaa"]), question="aaaaa"))
        self.is_bool(False, is_settled(Lot(), "a"))
        self.is_bool(True, is_settled(Lot(["a"]), "a"))

    def test_questions_of_24_letters(self):
        self.is_bool(True, is_settled(Lot(["a"]), "a" * 24))
        self.is_bool(True, is_settled(Lot(["a" * 5, "a" * 7]), "a" * 24))
        self.is_bool(False, is_settled(Lot(["a" * 10, "a" * 4]), "a" * 23))
        self.is_bool(True, is_settled(Lot(["a" * 12]), "a" * 24))
        self.is_bool(False, is_settled(Lot(), "ab" * 12))

    def test_a_cut_exactly_if_there_is_no_plan(self):
        for lot, question in drawn(50):
            settled = is_settled(lot, question)
            self.is_bool(bool(shortest_plans(lot, question)), settled)
            self.is_bool(not all_cuts(lot, question), settled)
            self.is_bool(plan(lot, question) is not None, settled)
            self.is_bool(cut(lot, question) is None, settled)
            self.is_bool(greatest_cut(lot, question) is None, settled)

    def test_wrong_questions(self):
        for action in (is_settled, plan, distances, cut, greatest_cut, cut_count):
            self.fails_for_all(InvalidWord, WRONG_QUESTIONS, lambda value: action(LOT, value))
            self.fails_for_all(InvalidWord, WRONG_QUESTIONS, lambda value: action(Lot(), value))
        for action in (steps_at, is_plan, is_cut):
            self.fails_for_all(InvalidWord, WRONG_QUESTIONS, lambda value: action(LOT, value, None))


class StepsTest(Case):
    def test_ordinary(self):
        self.assertEqual([(2, "ab", 0), (2, "b", 1)], steps_at(LOT, "abc", 2))
        self.assertEqual([(1, "b", 2), (1, "bc", 3)], steps_at(lot=LOT, question="abc", place=1))
        self.assertEqual([(2, "a", 1), (2, "a", 3), (2, "aa", 0)], steps_at(Lot(["a", "aa"]), "aaa", 2))
        self.assertEqual([], steps_at(Lot(), "abc", 0))

    def test_all_places(self):
        for lot, question in drawn(51, 40):
            for place in range(len(question) + 1):
                self.assertEqual([step for step in all_steps(lot, question) if step[0] == place],
                                 steps_at(lot, question, place))

    def test_wrong_places(self):
        wrong = STRANGE + (4, 5, "0", [0], (0,), {0: 0}, LOT)
        self.fails_for_all(InvalidPlace, wrong, lambda value: steps_at(LOT, "abc", value))


class PlanTest(Case):
    def test_ordinary(self):
        self.assertEqual(PLAN, plan(LOT, "abc"))
        self.assertEqual([(0, "abc", 3)], plan(lot=LOT + "abc", question="abc"))
        self.assertEqual([(0, "aaaa", 4), (4, "aaa", 1), (1, "aaaa", 5)], plan(Lot(["aaa", "aaaa"]), "aaaaa"))
        self.assertIs(None, plan(LOT - "b", "abc"))
        self.assertIs(None, plan(Lot(), "a"))
        self.assertEqual([(k, "a", k + 1) for k in range(24)], plan(Lot(["a"]), "a" * 24))

    def test_the_least_of_the_fewest_steps(self):
        for lot, question in drawn(52):
            found = shortest_plans(lot, question)
            self.assertEqual(min(found) if found else None, plan(lot, question))

    def test_long_plans(self):
        source = seeded(55)
        longest = 0
        for turn in range(150):
            letters = "a" if turn % 3 else "ab"
            question = some_word(source, letters, 24) if turn % 3 else "ab" * source.randint(6, 12)
            begins = (0, *(source.randrange(len(question)) for _ in range(3)))
            lot = Lot(sorted({question[begin:begin + source.randint(2, 12)] for begin in begins}))
            told = plan(lot, question)
            self.assertEqual(least_plan(lot, question), told)
            longest = max(longest, len(told or []))
        self.assertGreater(longest, 5)

    def test_words_are_compared_as_python_compares_them(self):
        # As tuples: "aab" stands ahead of "ab", although it is longer.
        self.assertEqual([(0, "a", 1), (1, "aab", 4)], plan(Lot(["a", "aab", "aa", "ab"]), "aaab"))
        self.assertEqual([(0, "a", 1), (1, "bb", 3)], plan(Lot(["a", "bb", "ab", "b"]), "abb"))

    def test_is_plan_of_all_short_lists_of_steps(self):
        for lot, question in (LOT, "abc"), (Lot(["a", "aa"]), "aa"), (Lot(["aa", "aaa"]), "aaaa"):
            lists = [[]]
            for _ in range(4):
                lists = [[*steps, step] for steps in lists for step in all_steps(lot, question)]
                for steps in lists:
                    right = (steps[0][0] == 0 and steps[-1][2] == len(question)
                             and all(one[2] == other[0] for one, other in zip(steps, steps[1:])))
                    self.is_bool(right, is_plan(lot, question, steps))

    def test_is_plan_lets_a_plan_come_to_a_place_again(self):
        longer = [*PLAN, (3, "bc", 1), (1, "bc", 3)]
        self.is_bool(True, is_plan(LOT, "abc", longer))
        self.is_bool(True, is_plan(LOT, "abc", tuple(longer)))
        self.is_bool(True, is_plan(LOT, "abc", [(0, "ab", 2), (2, "ab", 0), *PLAN]))
        self.is_bool(True, is_plan(LOT, "abc", PLAN + [(3, "bc", 1), (1, "bc", 3)] * 600))
        self.is_bool(True, is_plan(lot=LOT, question="abc", value=PLAN))

    def test_is_plan_of_any_value(self):
        wrong = (
            PLAN[:2], PLAN[1:], PLAN[::-1], [list(step) for step in PLAN], [*PLAN, (3, "bc", 1)], [(0, "abc", 3)],
            [(0, "ab", 2), (2, "b", True), (True, "bc", 3)], [(False, "ab", 2), *PLAN[1:]], [*PLAN, None],
            [None, *PLAN],
            [(0, "ab", 2), (2, "c", 3)], [(0, "ab", 2, 0), *PLAN[1:]], [(0, "ab"), *PLAN[1:]], PLAN[0], [(0, 3)],
            [(0, "ab", 2), (1, "bc", 3)], [(0, ["ab"], 2), *PLAN[1:]], [(0, None, 3)], [(0, {}, 3)], [(None, "ab", 3)],
            [([], "ab", 2)], {0: PLAN[0]}, {step: 1 for step in PLAN}, "plan", 0, 3, LOT, Graph(1), [0, 2, 1, 3],
            [(0, "ab", 2), (2, "b", 1), (1, "bc", 9)], [*PLAN[:2], (1, "bc", [3])], [*PLAN[:2], (1, "bc", None)],
            [(-1, "ab", 2), *PLAN[1:]], [[PLAN]], (PLAN,),
        )
        for value in STRANGE + wrong:
            self.is_bool(False, is_plan(LOT, "abc", value), value)
            self.is_bool(False, is_plan(Lot(), "abc", value), value)
        self.is_bool(True, is_plan(Lot(["a"]), "a", [(0, "a", 1)]))
        self.is_bool(False, is_plan(Lot(["a"]), "a", [(0, "a", True)]))
        self.is_bool(False, is_plan(Lot(["a"]), "a", [(False, "a", 1)]))
        self.is_bool(False, is_plan(LOT - "b", "abc", PLAN))
        self.is_bool(False, is_plan(LOT, "abca", PLAN))


class DistancesTest(Case):
    def test_ordinary(self):
        self.assertEqual([0, 2, 1, 3], distances(LOT, "abc"))
        self.assertEqual([0, None, 1, None], distances(lot=LOT - "b", question="abc"))
        self.assertEqual([0, None], distances(Lot(), "a"))
        self.assertEqual(list(range(25)), distances(Lot(["a"]), "a" * 24))

    def test_against_the_shortest_lists_of_steps(self):
        for lot, question in drawn(53):
            told = distances(lot, question)
            self.assertTrue(is_plain(told))
            reached = {0}
            expected = {0: 0}
            for steps in range(1, len(question) + 2):
                reached = {end for begin, _, end in all_steps(lot, question) if begin in reached}
                for place in reached:
                    expected.setdefault(place, steps)
            self.assertEqual([expected.get(place) for place in range(len(question) + 1)], told)
            found = plan(lot, question)
            self.assertEqual(told[-1], None if found is None else len(found))


class CutTest(Case):
    def test_ordinary(self):
        less = LOT - "b"
        self.assertEqual([[0, 2], [0, 2], 1], [cut(less, "abc"), greatest_cut(less, "abc"), cut_count(less, "abc")])
        self.assertEqual([[0], [0, 1, 2], 4], [cut(Lot(), "abc"), greatest_cut(Lot(), "abc"), cut_count(Lot(), "abc")])
        self.assertEqual([None, None, 0], [cut(LOT, "abc"), greatest_cut(LOT, "abc"), cut_count(LOT, "abc")])
        self.assertEqual([[0], [0], 1], [cut(lot=Lot(), question="a"), greatest_cut(lot=Lot(), question="a"),
                                         cut_count(lot=Lot(), question="a")])

    def test_questions_of_24_letters(self):
        self.assertEqual([[0], list(range(24)), 2 ** 23],
                         [action(Lot(), "a" * 24) for action in (cut, greatest_cut, cut_count)])
        lot = Lot(["a" * 12])
        self.assertEqual([None, None, 0], [action(lot, "a" * 24) for action in (cut, greatest_cut, cut_count)])
        self.assertEqual([[0, 12], [k for k in range(23) if k != 11], 2 ** 10],
                         [action(lot, "a" * 23) for action in (cut, greatest_cut, cut_count)])

    def test_against_all_sets_of_places(self):
        for lot, question in drawn(54):
            found = all_cuts(lot, question)
            self.assertEqual(len(found), cut_count(lot, question))
            if not found:
                continue
            self.assertEqual(min(found, key=len), cut(lot, question))
            self.assertEqual(max(found, key=len), greatest_cut(lot, question))
            self.assertEqual(len(found), 2 ** (len(classes(lot, question)) - 2))
            for places in found:
                self.is_bool(True, is_cut(lot, question, places))
                self.is_bool(True, is_cut(lot, question, tuple(places)))
                self.assertTrue(set(joined_to(lot, question, 0)) <= set(places))
                self.assertFalse(set(joined_to(lot, question, len(question))) & set(places))

    def test_is_cut_of_all_lists_of_places(self):
        for lot, question in (LOT - "b", "abc"), (LOT, "abc"), (Lot(), "ab"), (Lot(["ab"]), "abab"):
            found = all_cuts(lot, question)
            for size in range(4):
                for places in itertools.product(range(-1, len(question) + 2), repeat=size):
                    self.is_bool(list(places) in found, is_cut(lot, question, list(places)))

    def test_is_cut_of_any_value(self):
        self.is_bool(True, is_cut(lot=LOT - "b", question="abc", value=[0, 2]))
        wrong = ([2, 0], [0, 2, 2], [0, 0, 2], [0, 2, 3], [2], [0], [0, 1, 2], [False, 2], [0, None, 2], [0, "2"],
                 [0, [2]], {0: 0, 2: 2}, "02", 0, [[0, 2]], (0, (2,)), LOT, Graph(1), [0, 2, -1], [-1, 0, 2], [0, 2, 4])
        for value in STRANGE + wrong:
            self.is_bool(False, is_cut(LOT - "b", "abc", value), value)
            self.is_bool(False, is_cut(LOT, "abc", value), value)
        self.is_bool(False, is_cut(Lot(), "ab", [False]))
        self.is_bool(False, is_cut(Lot(), "ab", [0, True]))
        self.is_bool(True, is_cut(Lot(), "ab", [0, 1]))


class AtWorkTest(Case):
    def test_a_plan_tells_the_answer_from_the_kept_answers_of_each_graph(self):
        source = seeded(56)
        for lot, question in drawn(56, 90):
            steps = plan(lot, question)
            if steps is None:
                continue
            nodes = source.randint(1, 4)
            graph = Graph(nodes, some_ties(source, nodes, "abc", 16))
            here = [(x, x) for x in range(nodes)]
            table = [[0 if x == y else None for y in range(nodes)] for x in range(nodes)]
            for begin, word, end in steps:
                if begin < end:
                    here = product(nodes, here, pairs(graph, word))
                    table = cost_product(nodes, table, costs(graph, word))
                else:
                    here = back(nodes, here, pairs(graph, word))
                    table = cost_back(nodes, table, costs(graph, word))
            self.assertEqual(pairs(graph, question), here)
            self.assertEqual(costs(graph, question), table)


class AnewTest(Case):
    def test_what_is_told_is_new(self):
        for action in (lambda: plan(LOT, "abc"), lambda: steps_at(LOT, "abc", 1), lambda: distances(LOT, "abc"),
                       lambda: cut(LOT - "b", "abc"), lambda: greatest_cut(LOT - "b", "abc")):
            self.tells_anew(action)
            self.assertIs(list, type(action()))

    def test_what_is_passed_stays(self):
        self.leaves((LOT, "abc", list(PLAN)), is_plan)
        self.leaves((LOT, "abc", [0, 2]), is_cut)
        self.assertTrue(all(type(step) is tuple for step in plan(LOT, "abc")))


if __name__ == "__main__":
    unittest.main()
