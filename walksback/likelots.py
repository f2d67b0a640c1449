"""Two lots: whether one covers the other, whether they say the same, which words just one of them settles."""

from walksback.allwords import machine_of
from walksback.basics import in_sequence
from walksback.machines import LET_BY_JUST_ONE, machine_of_two
from walksback.settled import is_settled


def covers(one, other):
    """Whether the one lot settles all words that the other one settles: whether it settles all words of it."""
    return all([is_settled(one, word) for word in other])


def say_the_same(one, other):
    """Whether both lots settle the same words."""
    return covers(one, other) and covers(other, one)


def parting_word(one, other):
    """The least word that just one of the lots settles, which is a word of one of them; None without any."""
    apart = [word for word in one if not is_settled(other, word)]
    apart_too = [word for word in other if not is_settled(one, word)]
    found = in_sequence(apart + apart_too)
    return found[0] if found else None


def settled_by_both(one, other, letters):
    """The least Machine that lets just the strings over the letters that both lots settle."""
    return machine_of(one, letters) & machine_of(other, letters)


def settled_by_one(one, other, letters):
    """The least Machine that lets just the strings over the letters that just one of the lots settles."""
    return machine_of_two(machine_of(one, letters), machine_of(other, letters), LET_BY_JUST_ONE)
