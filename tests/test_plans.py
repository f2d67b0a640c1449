"""walksback.plans: lengths, backs, fares and ranks of plans."""

import itertools
import unittest

from support import STRANGE, Case, is_plain, seeded, some_word, some_words
from walksback.errors import InvalidNumber, InvalidPrices, InvalidWord, NotSettled, TooMany
from walksback.lots import Lot
from walksback.places import bridges, joined_to
from walksback.plans import are_ranks, cheapest_plan, fewest_backs, how_many, plan_at, ranks
from walksback.settled import distances, is_plan, plan

LOT = Lot(["ab", "b", "bc"])
LESS = Lot(["ab", "bc"])
PLAN = [(0, "ab", 2), (2, "b", 1), (1, "bc", 3)]
# Of aaaaaaa by aaa and aaaaa: 0 to 5, back to 2, on to 7; or 0 to 3, ..
LONG = Lot(["aaa", "aaaaa"])
WRONG_QUESTIONS = STRANGE + ("a" * 25, 0, 1, ["a"], ("a", "b"), Lot(["a"]))
WRONG_NUMBERS = STRANGE[:4] + (-1, -(10 ** 20)) + tuple(
    value for value in STRANGE if not isinstance(value, int)) + ("0", [0], (1,), {0: 0}, LOT)


def all_steps(lot, question):
    """All steps of all places, sorted."""
    told = []
    for begin, end, word in bridges(lot, question):
        told += [(begin, word, end), (end, word, begin)]
    return sorted(told)


def plans_of(lot, question, size):
    """All plans of so many steps, sorted."""
    lists = [[]]
    steps = all_steps(lot, question)
    for _ in range(size):
        lists = [[*ahead, step] for ahead in lists for step in steps if step[0] == (ahead[-1][2] if ahead else 0)]
    return sorted(ahead for ahead in lists if ahead and ahead[-1][2] == len(question))


def ways_without_circles(lot, question):
    """For each place all lists of steps to it from 0 that come to no place twice."""
    told = {place: [] for place in range(len(question) + 1)}
    lists = [[]]
    while lists:
        for ahead in lists:
            told[ahead[-1][2] if ahead else 0].append(ahead)
        lists = [[*ahead, step] for ahead in lists for step in all_steps(lot, question)
                 if step[0] == (ahead[-1][2] if ahead else 0)
                 and step[2] not in [0, *(known[2] for known in ahead)]]
    return told


def fare_of(steps, fares):
    """The fare of a list of steps."""
    return sum(fares[0] if begin < end else fares[1] for begin, _, end in steps)


def backs_of(steps):
    """How many of the steps go back."""
    return fare_of(steps, (0, 1))


def drawn(number, rounds=120, most=8):
    """Lots of words that mostly stand in a short question, and this, drawn from a seeded source."""
    source = seeded(number)
    for turn in range(rounds):
        question = some_word(source, "a" if turn % 2 == 0 else "ab", most)
        words = set(some_words(source, "ab", 1, 3))
        for _ in range(source.randint(1, 3)):
            begin = source.randrange(len(question))
            words.add(question[begin:begin + source.randint(1, 6)])
        yield Lot(sorted(words)), question
    yield LOT, "abc"
    yield LESS, "abc"
    yield LONG, "aaaaaaa"
    yield Lot(), "a"


class HowManyTest(Case):
    def test_ordinary(self):
        self.assertEqual([0, 0, 0, 1, 0, 3, 0, 8], [how_many(LOT, "abc", steps) for steps in range(8)])
        self.assertEqual(3, how_many(lot=LOT, question="abc", steps=5))
        self.assertEqual([0, 1, 0, 1], [how_many(Lot(["a"]), "a", steps) for steps in range(4)])
        self.assertEqual([0, 0, 0], [how_many(LESS, "abc", steps) for steps in (0, 3, 60)])

    def test_against_all_plans(self):
        for lot, question in drawn(320, 50, 6):
            for steps in range(5):
                found = plans_of(lot, question, steps)
                self.assertTrue(all(is_plan(lot, question, steps) for steps in found))
                self.assertEqual(len(found), how_many(lot, question, steps))

    def test_each_number_from_0_to_60(self):
        for lot, question in (LOT, "abc"), (LONG, "aaaaaaa"), (Lot(["a", "aa", "aaa"]), "a" * 24), (LESS, "abc"):
            # How many ways of so many steps there are from each place to the last one.
            ways = {len(question): 1}
            for steps in range(61):
                self.assertEqual(ways.get(0, 0), how_many(lot, question, steps), steps)
                longer = {}
                for begin, _, end in all_steps(lot, question):
                    longer[begin] = longer.get(begin, 0) + ways.get(end, 0)
                ways = longer

    def test_errors(self):
        self.fails(TooMany, {"what": "steps", "limit": 60}, how_many, LOT, "abc", 61)
        self.fails(TooMany, {"what": "steps", "limit": 60}, how_many, LESS, "abc", 10 ** 20)
        self.fails_for_all(InvalidWord, WRONG_QUESTIONS, lambda value: how_many(LOT, value, 61))
        self.fails_for_all(InvalidNumber, WRONG_NUMBERS, lambda value: how_many(LOT, "abc", value))
        self.sequence(how_many, {"lot": LOT, "question": "abc", "steps": 60}, [
            ({"question": 0}, InvalidWord, {"value": 0}),
            ({"steps": True}, InvalidNumber, {"value": True}),
            ({"steps": 61}, TooMany, {"what": "steps", "limit": 60}),
        ])
        self.assertTrue(is_plain([how_many(LOT, "abc", 3)]))


class PlanAtTest(Case):
    def test_ordinary(self):
        self.assertEqual(PLAN, plan_at(LOT, "abc", 0))
        self.assertEqual(PLAN, plan_at(lot=LOT, question="abc", number=0))
        self.fails(InvalidNumber, {"value": 1}, plan_at, LOT, "abc", 1)

    def test_each_number_and_the_first_that_is_too_great(self):
        several = 0
        for lot, question in drawn(321):
            steps = distances(lot, question)[-1]
            if steps is None:
                self.fails(NotSettled, {"value": question}, plan_at, lot, question, 0)
                continue
            found = plans_of(lot, question, steps)
            self.assertEqual(found, [plan_at(lot, question, number) for number in range(len(found))])
            self.assertEqual(plan(lot, question), found[0])
            self.fails(InvalidNumber, {"value": len(found)}, plan_at, lot, question, len(found))
            self.fails(InvalidNumber, {"value": 10 ** 25}, plan_at, lot, question, 10 ** 25)
            several += len(found) > 2
        self.assertGreater(several, 5)

    def test_very_many_plans(self):
        # Two steps of aa and aaaa or five of aaa.. at 24 letters: six words of aaaa are the least length, then others.
        lot = Lot(["a" * 7, "a" * 8, "a" * 9])
        found = plans_of(lot, "a" * 24, 3)
        self.assertEqual(7, len(found))
        self.assertEqual(found, [plan_at(lot, "a" * 24, number) for number in range(7)])
        lot = Lot(["a", "b", "ab"])
        question = "ab" * 12
        self.assertEqual([(2 * i, "ab", 2 * i + 2) for i in range(12)], plan_at(lot, question, 0))
        lot = Lot(["a" * 5, "a" * 6, "a" * 4])
        many = how_many(lot, "a" * 23, 4)
        self.assertEqual(plans_of(lot, "a" * 23, 4)[many // 2], plan_at(lot, "a" * 23, many // 2))

    def test_errors(self):
        self.fails_for_all(InvalidWord, WRONG_QUESTIONS, lambda value: plan_at(LOT, value, -1))
        self.fails_for_all(InvalidNumber, WRONG_NUMBERS, lambda value: plan_at(LOT, "abc", value))
        # A number that is no COUNT comes ahead of NotSettled, one that is too great behind it.
        self.fails_for_all(InvalidNumber, WRONG_NUMBERS, lambda value: plan_at(LESS, "abc", value))
        self.sequence(plan_at, {"lot": LOT, "question": "abc", "number": 0}, [
            ({"question": []}, InvalidWord, {}),
            ({"number": False}, InvalidNumber, {"value": False}),
            ({"lot": LESS}, NotSettled, {"value": "abc"}),
            ({"number": 1}, InvalidNumber, {"value": 1}),
        ])
        self.fails(NotSettled, {"value": "abc"}, plan_at, LESS, "abc", 7)
        self.tells_anew(lambda: plan_at(LOT, "abc", 0))


class CheapestPlanTest(Case):
    def test_ordinary(self):
        self.assertEqual(PLAN, cheapest_plan(LOT, "abc", (1, 3)))
        self.assertEqual(PLAN, cheapest_plan(lot=LOT, question="abc", fares=(0, 0)))
        some = Lot(["aaaa", "aaa", "a"])
        self.assertEqual([(0, "a", 1), (1, "aaaa", 5)], cheapest_plan(some, "aaaaa", (2, 5)))
        # Steps forth of 1,000 and of nothing back: as few forth as may be.
        self.assertEqual([(0, "aaaa", 4), (4, "aaa", 1), (1, "aaaa", 5)],
                         cheapest_plan(Lot(["aaaa", "aaa"]), "aaaaa", (1000, 0)))

    def test_against_all_ways_without_circles(self):
        # A plan that comes to a place twice is longer than the one without the circle, and not cheaper.
        unlike = 0
        for lot, question in drawn(322, 400):
            found = ways_without_circles(lot, question)[len(question)]
            told = []
            for fares in (0, 0), (0, 1), (1, 0), (1, 1), (1000, 0), (0, 1000), (1000, 1000), (3, 7), (7, 3), (1, 1000):
                if not found:
                    self.fails(NotSettled, {"value": question}, cheapest_plan, lot, question, fares)
                    continue
                expected = min(found, key=lambda steps: (fare_of(steps, fares), len(steps), steps))
                told.append(cheapest_plan(lot, question, fares))
                self.assertEqual(expected, told[-1])
            unlike += len({str(steps) for steps in told}) > 1
        self.assertGreater(unlike, 4)

    def test_long_questions(self):
        lot = Lot(["a" * 5, "a" * 7, "a" * 12])
        for fares in (1, 0), (0, 1), (1000, 1), (1, 1000):
            found = ways_without_circles(lot, "a" * 14)[14]
            expected = min(found, key=lambda steps: (fare_of(steps, fares), len(steps), steps))
            self.assertEqual(expected, cheapest_plan(lot, "a" * 14, fares))
        self.assertEqual([(0, "a" * 12, 12), (12, "a" * 12, 24)], cheapest_plan(lot, "a" * 24, (1, 1)))

    def test_errors(self):
        wrong = STRANGE + ([1, 3], (1,), (1, 2, 3), (1, -1), (-1, 1), (1001, 0), (0, 1001), (True, 1), (1, False),
                           (None, 1), ("1", "2"), ((1, 2),), {1: 2}, 1, "12", LOT)
        self.fails_for_all(InvalidPrices, wrong, lambda value: cheapest_plan(LOT, "abc", value))
        self.fails_for_all(InvalidPrices, wrong, lambda value: cheapest_plan(LESS, "abc", value))
        self.fails_for_all(InvalidWord, WRONG_QUESTIONS, lambda value: cheapest_plan(LOT, value, None))
        self.sequence(cheapest_plan, {"lot": LOT, "question": "abc", "fares": (0, 1000)}, [
            ({"question": "abC"}, InvalidWord, {"value": "abC"}),
            ({"fares": [0, 0]}, InvalidPrices, {}),
            ({"lot": LESS}, NotSettled, {"value": "abc"}),
        ])
        self.tells_anew(lambda: cheapest_plan(LOT, "abc", (1, 3)))


class BacksTest(Case):
    def test_ordinary(self):
        self.assertEqual([1, 0, 0], [fewest_backs(LOT, "abc"), fewest_backs(LOT, "ab"), fewest_backs(LOT, "abbc")])
        self.assertEqual([0, 1, 0, 1], ranks(LOT, "abc"))
        self.assertEqual([0, 0], ranks(Lot(["a"]), "a"))
        self.assertEqual(1, fewest_backs(lot=LOT, question="abc"))
        self.assertEqual([0, 1, 0, 1], ranks(lot=LOT, question="abc"))

    def test_places_that_are_not_joined_to_0(self):
        # Of abc, by abc alone, the places 1 and 2 are not come to: no back is needed.
        self.assertEqual([0, 0, 0, 0], ranks(Lot(["abc"]), "abc"))
        # Of abcd by abc, c, cd: 0, 3, back to 2, 4; place 1 is not come to, and a plan needs one back.
        self.assertEqual([0, 1, 1, 0, 1], ranks(Lot(["abc", "c", "cd"]), "abcd"))

    def test_against_all_ways_without_circles(self):
        lonely = 0
        for lot, question in drawn(323, 60):
            ways = ways_without_circles(lot, question)
            if not ways[len(question)]:
                self.fails(NotSettled, {"value": question}, fewest_backs, lot, question)
                self.fails(NotSettled, {"value": question}, ranks, lot, question)
                continue
            fewest = min(map(backs_of, ways[len(question)]))
            self.assertEqual(fewest, fewest_backs(lot, question))
            expected = [min(map(backs_of, ways[place]), default=fewest) for place in range(len(question) + 1)]
            told = ranks(lot, question)
            self.assertEqual(expected, told)
            self.assertTrue(is_plain(told))
            lonely += len(joined_to(lot, question, 0)) <= len(question)
            for number in range(fewest + 3):
                self.is_bool(number <= fewest, are_ranks(lot, question, number, told))
        self.assertGreater(lonely, 3)

    def test_many_backs(self):
        found = 0
        for lot, question in (Lot(["a" * 5, "a" * 9]), "a" * 13), (Lot(["a" * 7, "a" * 9]), "a" * 15):
            told = [number for number in range(9) if are_ranks(lot, question, number, ranks(lot, question))]
            self.assertEqual(list(range(fewest_backs(lot, question) + 1)), told)
            found = max(found, fewest_backs(lot, question))
        self.assertGreater(found, 2)

    def test_errors(self):
        for action in (fewest_backs, ranks):
            self.fails_for_all(InvalidWord, WRONG_QUESTIONS, lambda value: action(LOT, value))
            self.fails_for_all(InvalidWord, WRONG_QUESTIONS, lambda value: action(LESS, value))
            self.fails(NotSettled, {"value": "abc"}, action, LESS, "abc")
        self.tells_anew(lambda: ranks(LOT, "abc"))


class AreRanksTest(Case):
    def test_ordinary(self):
        self.is_bool(True, are_ranks(lot=LOT, question="abc", number=1, value=[0, 1, 0, 1]))
        self.is_bool(True, are_ranks(LOT, "abc", 0, [0, 1, 0, 1]))
        self.is_bool(False, are_ranks(LOT, "abc", 2, [0, 1, 0, 1]))
        self.is_bool(True, are_ranks(LOT, "abc", 1, (0, 1, 0, 1)))
        self.is_bool(True, are_ranks(LOT, "abc", 0, [0, 0, 0, 0]))

    def test_all_lists_of_small_ranks(self):
        for lot, question in (LOT, "abc"), (LESS, "abc"), (Lot(["aa", "aaa"]), "aaaa"), (Lot(), "aa"):
            steps = distances(lot, question)[-1]
            for value in itertools.product(range(3), repeat=len(question) + 1):
                fit = value[0] == 0 and all(value[end] <= value[begin] <= value[end] + 1
                                            for begin, end, _ in bridges(lot, question))
                for number in range(4):
                    right = fit and value[-1] >= number
                    self.is_bool(right, are_ranks(lot, question, number, list(value)))
                    if right and steps is not None:
                        self.assertGreaterEqual(fewest_backs(lot, question), number)

    def test_without_any_plan_for_each_number(self):
        for number in (0, 1, 7, 10 ** 20):
            self.is_bool(True, are_ranks(LESS, "abc", number, [0, number, 0, number]))
            self.is_bool(True, are_ranks(Lot(), "a", number, [0, number]))
            self.is_bool(False, are_ranks(Lot(), "a", number + 1, [0, number]))

    def test_any_value(self):
        wrong = ([0, 1, 0], [0, 1, 0, 1, 1], [1, 1, 1, 1], [0, 1, 0, 0], [0, 0, 1, 1], [0, 2, 0, 2], [0, 1, 0, True],
                 [False, 1, 0, 1], [0, 1, 0, None], [0, 1, 0, "1"], [0, 1, 0, [1]], {0: 0, 1: 1, 2: 0, 3: 1}, "0101",
                 [0, 1, -1, 1], [0, -1, 0, -1], [[0, 1, 0, 1]], 1, LOT, ([0, 1, 0, 1],))
        for value in STRANGE + wrong:
            self.is_bool(False, are_ranks(LOT, "abc", 1, value), value)
        self.is_bool(False, are_ranks(Lot(), "a", 0, [0, True]))
        self.is_bool(False, are_ranks(Lot(), "a", 0, [False, 0]))

    def test_errors(self):
        self.fails_for_all(InvalidWord, WRONG_QUESTIONS, lambda value: are_ranks(LOT, value, 0, [0]))
        for told in ([0, 1, 0, 1], None):
            self.fails_for_all(InvalidNumber, WRONG_NUMBERS, lambda value: are_ranks(LOT, "abc", value, told))
        self.sequence(are_ranks, {"lot": LESS, "question": "abc", "number": 1, "value": None}, [
            ({"question": ()}, InvalidWord, {"value": ()}),
            ({"number": -1}, InvalidNumber, {"value": -1}),
        ])
        self.leaves((LOT, "abc", 1, [0, 1, 0, 1]), are_ranks)


if __name__ == "__main__":
    unittest.main()
