"""What the tests share: values of each kind, checks of errors, small graphs and lots."""

import copy
import random
import unittest

# Values of each kind but floats: no word, place, node, list of one of these, ... is among the ones that are asked
# for as STRANGE, so that each parameter that has an error must raise it for each of them.
STRANGE = (
    None, True, False, -1, 10 ** 20, -(10 ** 20), "", " ", "A", "aB", "a b", "a1", "1", "~", "\n", "ab\n", "Below",
    (), [], {}, (None,), [None], [True], (False,), ["A"], [[]], [()], ((),), [[1, 2], [3]], {"a": 1}, {1: "a"},
    {None: None}, {"a": ["b"]}, [{"a": 1}], ({},), [[[["a"]]]], b"a", len, object(), ValueError("x"),
)


def spoil(value):
    """Changes a list or dict, and all that can be changed in it, so that a caller who shares it would see it."""
    if isinstance(value, (list, tuple)):
        for part in value:
            spoil(part)
    if isinstance(value, dict):
        for part in value.values():
            spoil(part)
        value.clear()
        value["spoiled"] = "spoiled"
    if isinstance(value, list):
        value.clear()
        value.append("spoiled")


class Case(unittest.TestCase):
    """A test case with the checks that all stages need."""

    def fails(self, error, told, action, *args, **more):
        """The call raises just this error, and its attributes are the very values told."""
        with self.assertRaises(error) as held:
            action(*args, **more)
        raised = held.exception
        self.assertIs(type(raised), error, f"{raised!r} by {args!r}")
        for name, value in told.items():
            found = getattr(raised, name)
            self.assertIs(type(found), type(value), f"{name} of {raised!r} by {args!r}")
            if isinstance(value, int) and not isinstance(value, bool):
                self.assertEqual(found, value, f"{name} of {raised!r} by {args!r}")
            else:
                self.assertIs(found, value, f"{name} of {raised!r} by {args!r}")

    def fails_for_all(self, error, values, action):
        """For each of the values the action raises the error with the very value."""
        for value in values:
            self.fails(error, {"value": value}, action, value)

    def is_bool(self, expected, found, note=None):
        """The value is just True or just False, as expected."""
        self.assertIs(found, bool(expected), note)

    def tells_anew(self, action):
        """What is told is new: who changes it does not change what is told the next time, which is the same."""
        first = action()
        kept = copy.deepcopy(first)
        again = action()
        self.assertEqual(again, kept)
        self.assertIs(type(again), type(first))
        spoil(first)
        self.assertEqual(again, kept)
        self.assertEqual(action(), kept)

    def sequence(self, action, good, wrong):
        """
        The call with good keyword arguments raises nothing. wrong lists tuples (changes, error, told): a call with the
        changes of one of them raises just its error, and with those of two of them the error that is listed first.
        """
        action(**good)
        for at, (changes, error, told) in enumerate(wrong):
            self.fails(error, told, action, **{**good, **changes})
            for behind, _, _ in wrong[at + 1:]:
                self.fails(error, told, action, **{**good, **behind, **changes})

    def leaves(self, values, action):
        """The action does not change the values that it is passed."""
        ahead = copy.deepcopy(values)
        action(*values)
        self.assertEqual(values, ahead)


def some_relation(source, nodes, most):
    """A relation of some nodes, drawn from a seeded source."""
    return sorted({(source.randrange(nodes), source.randrange(nodes)) for _ in range(source.randint(0, most))})


def is_plain(value):
    """Whether no bool hides in a value as a number."""
    if isinstance(value, dict):
        return is_plain(list(value)) and is_plain(list(value.values()))
    if isinstance(value, (list, tuple)):
        return all(is_plain(part) for part in value)
    return not isinstance(value, bool)


def some_words(source, letters, most_words, most_letters):
    """Some unlike words, drawn from a seeded source."""
    words = {"".join(source.choice(letters) for _ in range(source.randint(1, most_letters)))
             for _ in range(source.randint(0, most_words))}
    shuffled = sorted(words)
    source.shuffle(shuffled)
    return shuffled


def some_word(source, letters, most):
    """A word, drawn from a seeded source."""
    return "".join(source.choice(letters) for _ in range(source.randint(1, most)))


def some_ties(source, nodes, letters, most):
    """Ties of some nodes with unlike first three, drawn from a seeded source."""
    firsts = {(source.randrange(nodes), source.choice(letters), source.randrange(nodes))
              for _ in range(source.randint(0, most))}
    ties = [(*first, source.choice((0, 0, 1, 2, 5, 1000))) for first in sorted(firsts)]
    source.shuffle(ties)
    return ties


def seeded(number):
    """A source of values that is the same in each run."""
    return random.Random(number)
