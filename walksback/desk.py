"""A desk: lots under names, commands that change or ask them, and what can be tried without an effect."""

from walksback.base import base, further
from walksback.basics import is_question, is_word
from walksback.errors import (
    CommandFailed, InvalidCommand, LimitError, MissingError, NothingToUndo, StateError, TakenName, UnknownName,
    WalkError,
)
from walksback.growing import chain
from walksback.likelots import covers
from walksback.lots import Lot, is_lot_word
from walksback.settled import cut, is_settled, plan

MOST_NAME_LETTERS = 8
# What stands behind the first word of a command; behind `lot` there are a name and any number of words.
PARTS = {
    "keep": ("name", "lot word"),
    "leave": ("name", "lot word"),
    "drop": ("name",),
    "undo": (),
    "ask": ("name", "question"),
    "plan": ("name", "question"),
    "cut": ("name", "question"),
    "chain": ("name", "question"),
    "base": ("name",),
    "further": ("name", "question"),
    "covers": ("name", "name"),
}


def is_name(value):
    """Whether any value is a name."""
    return is_word(value) and len(value) <= MOST_NAME_LETTERS


def is_part(kind, word):
    """Whether a word of a command is of the kind that stands there."""
    if kind == "name":
        return is_name(word)
    if kind == "question":
        return is_question(word)
    return is_lot_word(word)


def is_command(value):
    """Whether any value is a command."""
    if not isinstance(value, str):
        return False
    first, *words = value.split(" ")
    if first == "lot":
        return len(words) > 0 and is_name(words[0]) and are_words_of_a_lot(words[1:])
    if first not in PARTS:
        return False
    kinds = PARTS[first]
    return len(words) == len(kinds) and all([is_part(kind, word) for kind, word in zip(kinds, words)])


def are_words_of_a_lot(words):
    """Whether a Lot may have just these words."""
    if len(words) > Lot.MOST_WORDS or len(set(words)) < len(words):
        return False
    return all([is_lot_word(word) for word in words])


def lot_under(lots, name):
    """The Lot that has this name: UnknownName if none has."""
    if name not in lots:
        raise UnknownName(name)
    return lots[name]


def with_lot(lots, name, lot):
    """The lots with this one under the name."""
    told = {known: lots[known] for known in lots}
    told[name] = lot
    return told


def add_lot(lots, words):
    """The lots behind the command `lot`, and its answer."""
    name = words[0]
    if name in lots:
        raise TakenName(name)
    return with_lot(lots, name, Lot(words[1:])), "done"


def keep_word(lots, words):
    """The lots behind the command `keep`, and its answer."""
    name, word = words
    lot = lot_under(lots, name) + word
    return with_lot(lots, name, lot), str(len(lot))


def leave_word(lots, words):
    """The lots behind the command `leave`, and its answer."""
    name, word = words
    lot = lot_under(lots, name) - word
    return with_lot(lots, name, lot), str(len(lot))


def drop_lot(lots, words):
    """The lots behind the command `drop`, and its answer."""
    name = words[0]
    lot_under(lots, name)
    return {known: lots[known] for known in lots if known != name}, "done"


def yes_or_no(holds):
    """The answer to a question that is answered by yes or no."""
    return "yes" if holds else "no"


def in_a_row(parts):
    """The answer of some strings; - without any."""
    return " ".join(parts) if parts else "-"


def answer_ask(lots, words):
    """The answer of the command `ask`."""
    name, word = words
    return yes_or_no(is_settled(lot_under(lots, name), word))


def answer_plan(lots, words):
    """The answer of the command `plan`."""
    name, word = words
    steps = plan(lot_under(lots, name), word)
    return "-" if steps is None else in_a_row(["0", *[f"{by} {place}" for _, by, place in steps]])


def answer_cut(lots, words):
    """The answer of the command `cut`."""
    name, word = words
    places = cut(lot_under(lots, name), word)
    return "-" if places is None else in_a_row([str(place) for place in places])


def answer_chain(lots, words):
    """The answer of the command `chain`."""
    name, word = words
    found = chain(lot_under(lots, name), word)
    return "-" if found is None else in_a_row(found)


def answer_base(lots, words):
    """The answer of the command `base`."""
    return in_a_row(base(lot_under(lots, words[0])).words())


def answer_further(lots, words):
    """The answer of the command `further`."""
    name, word = words
    lot = lot_under(lots, name)
    return "-" if is_settled(lot, word) else in_a_row(further(lot, word))


def answer_covers(lots, words):
    """The answer of the command `covers`."""
    one, other = words
    first = lot_under(lots, one)
    return yes_or_no(covers(first, lot_under(lots, other)))


CHANGES = {"lot": add_lot, "keep": keep_word, "leave": leave_word, "drop": drop_lot}
ANSWERS = {
    "ask": answer_ask, "plan": answer_plan, "cut": answer_cut, "chain": answer_chain, "base": answer_base,
    "further": answer_further, "covers": answer_covers,
}


class Desk:
    """Lots under names. What it has is never changed, but put in place of what it had, so that it can be put back."""

    def __init__(self):
        self._lots = {}
        # Tuples of a command that was done and the lots that it was done to.
        self._done = []

    def names(self):
        """The list of the names, sorted as Python compares strings."""
        return sorted(self._lots)

    def do(self, command):
        """Performs a command and tells its answer."""
        if not is_command(command):
            raise InvalidCommand(command)
        first, *words = command.split(" ")
        if first == "undo":
            return self.undo()
        if first in CHANGES:
            change = CHANGES[first]
            lots, answer = change(self._lots, words)
            self._done = [*self._done, (command, self._lots)]
            self._lots = lots
            return answer
        ask = ANSWERS[first]
        return ask(self._lots, words)

    def undo(self):
        """Takes the last command back that was done and not taken back."""
        if not self._done:
            raise NothingToUndo()
        self._lots = self._done[-1][1]
        self._done = self._done[:-1]
        return "done"

    def do_all(self, *commands):
        """Performs some commands, one behind another, all or none, and tells the list of their answers."""
        lots, done = self._lots, self._done
        answers = []
        for position, command in enumerate(commands):
            try:
                answers.append(self.do(command))
            except (WalkError, MissingError, StateError, LimitError) as why:
                self._lots = lots
                self._done = done
                raise CommandFailed(position) from why
        return answers

    def log(self):
        """The list of the commands that changed the desk and were not taken back."""
        return [command for command, _ in self._done]

    def __len__(self):
        return len(self._lots)

    def __contains__(self, x):
        return isinstance(x, str) and x in self._lots

    def __getitem__(self, at):
        if at not in self:
            raise UnknownName(at)
        return self._lots[at]

    def __iter__(self):
        raise TypeError("a desk is not iterated over")


class Trial:
    """For `with`: behind the block the desk has what it had ahead of it."""

    def __init__(self, desk):
        self._desk = desk
        self._lots = {}
        self._done = []

    def __enter__(self):
        self._lots = self._desk._lots
        self._done = self._desk._done
        return self._desk

    def __exit__(self, kind, value, trace):
        self._desk._lots = self._lots
        self._desk._done = self._done


def tried(desk, action):
    """What a function returns for the desk, called within a Trial."""
    with Trial(desk) as held:
        return action(held)
