"""Graphs: nodes, numbered from 0, and ties with a letter and a cost between them."""

from walksback.basics import is_count, is_integer, is_letter, is_list
from walksback.checks import check_node, check_nodes, is_node
from walksback.errors import InvalidLetter, InvalidOrder, InvalidTie, InvalidTies, TooMany, UnknownTie

MOST_COST = 1000


class SoundTies:
    """Ties that the package knows to be right, which may be more, and of more nodes, than what may be passed."""

    def __init__(self, sound):
        self.sound = sound


class Graph:
    """Some nodes, and ties, tuples (node, letter, node, cost). A Graph never changes."""

    MOST_NODES = 120
    MOST_TIES = 1000

    def __init__(self, nodes, ties=()):
        if isinstance(ties, SoundTies):
            rows = ties.sound
        else:
            check_nodes(nodes)
            check_ties(nodes, ties)
            rows = ties
        self._nodes = nodes
        self._ties = sorted(rows)

    @property
    def nodes(self):
        """How many nodes there are."""
        return self._nodes

    def ties(self):
        """The sorted list of the ties."""
        return list(self._ties)

    def letters(self):
        """The sorted list of the letters that the ties have, each once."""
        return sorted(set([tie[1] for tie in self._ties]))

    def at(self, node, letter):
        """The sorted list of the tuples (node, cost) of the ties with the letter from the node."""
        check_node(self._nodes, node)
        if not is_letter(letter):
            raise InvalidLetter(letter)
        return [(goal, cost) for begin, sign, goal, cost in self._ties if begin == node and sign == letter]

    def renumbered(self, order):
        """The Graph in which node i has the number order[i]."""
        if not is_order(self._nodes, order):
            raise InvalidOrder(order)
        rows = [(order[begin], letter, order[goal], cost) for begin, letter, goal, cost in self._ties]
        return Graph(self._nodes, SoundTies(rows))

    def beside(self, other):
        """The Graph with the nodes and ties of the other one behind its own."""
        first = self._nodes
        if first + other.nodes > Graph.MOST_NODES:
            raise TooMany("nodes", Graph.MOST_NODES)
        rows = [(first + begin, letter, first + goal, cost) for begin, letter, goal, cost in other]
        check_number_of_ties(len(self._ties) + len(rows))
        return Graph(first + other.nodes, SoundTies(self._ties + rows))

    def __len__(self):
        return len(self._ties)

    def __contains__(self, x):
        return is_tie(self._nodes, x) and x in self._ties

    def __iter__(self):
        return iter(self._ties)

    def __eq__(self, other):
        return isinstance(other, Graph) and self._nodes == other._nodes and self._ties == other._ties

    def __repr__(self):
        return f"Graph({self._nodes}, {self._ties!r})"

    def __add__(self, other):
        if not is_tie(self._nodes, other):
            raise InvalidTie(other)
        rows = [tie for tie in self._ties if tie[:3] != other[:3]]
        check_number_of_ties(len(rows) + 1)
        return Graph(self._nodes, SoundTies([*rows, other]))

    def __radd__(self, other):
        return self + other

    def __sub__(self, other):
        if other not in self:
            raise UnknownTie(other)
        return Graph(self._nodes, SoundTies([tie for tie in self._ties if tie != other]))

    def __invert__(self):
        rows = [(goal, letter, begin, cost) for begin, letter, goal, cost in self._ties]
        return Graph(self._nodes, SoundTies(rows))


def is_tie(nodes, value):
    """Whether any value is a tie of so many nodes."""
    if not isinstance(value, tuple) or len(value) != 4:
        return False
    begin, letter, goal, cost = value
    if not is_node(nodes, begin) or not is_letter(letter) or not is_node(nodes, goal):
        return False
    return is_count(cost) and cost <= MOST_COST


def check_ties(nodes, ties):
    """Raises the errors of what is passed as the ties of so many nodes."""
    if not is_list(ties):
        raise InvalidTies(None)
    ahead = {}
    for position, tie in enumerate(ties):
        if not is_tie(nodes, tie) or tie[:3] in ahead:
            raise InvalidTies(position)
        ahead[tie[:3]] = True
    check_number_of_ties(len(ties))


def check_number_of_ties(number):
    """Raises TooMany if these are more ties than a graph may have that is passed."""
    if number > Graph.MOST_TIES:
        raise TooMany("ties", Graph.MOST_TIES)


def is_order(nodes, value):
    """Whether any value is a list with each of so many nodes once."""
    if not is_list(value) or not all([is_integer(node) for node in value]):
        return False
    return sorted(value) == list(range(nodes))
