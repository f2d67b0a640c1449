"""Twins of a cut, and any other two graphs that have the same kept answers and unlike ones of the question."""

from walksback.answers import answer
from walksback.checks import check_question, check_telling
from walksback.errors import InvalidCut, OtherNodes, Settled
from walksback.graphs import Graph
from walksback.places import joined_to
from walksback.settled import is_cut, is_settled
from walksback.tables import first_apart_of


def twins(lot, question, cut=None):
    """The tuple (plain, crossed) of a cut; of the one of the fewest places, where none is passed."""
    if is_settled(lot, question):
        raise Settled(question)
    if cut is None:
        places = joined_to(lot, question, 0)
    else:
        if not is_cut(lot, question, cut):
            raise InvalidCut(cut)
        places = list(cut)
    apart = [(place in places) != (place + 1 in places) for place in range(len(question))]
    return twin_graph(question, [False] * len(question)), twin_graph(question, apart)


def twin_graph(question, crossed):
    """The graph with two nodes for each place, in which the letters that are told to be crossed change the side."""
    ties = []
    for place, letter in enumerate(question):
        first, second = 2 * place + 2, 2 * place + 3
        if crossed[place]:
            first, second = second, first
        ties.append((2 * place, letter, first, 0))
        ties.append((2 * place + 1, letter, second, 0))
    return Graph(2 * len(question) + 2, ties)


def is_parting(lot, question, value, telling):
    """Whether any value is a tuple of two Graphs that part the question from the lot in this telling."""
    check_question(question)
    check_telling(telling)
    if not are_two_graphs(value):
        return False
    one, other = value
    if not all([answer(one, word, telling) == answer(other, word, telling) for word in lot]):
        return False
    return answer(one, question, telling) != answer(other, question, telling)


def are_two_graphs(value):
    """Whether any value is a tuple of two Graphs of as many nodes."""
    if not isinstance(value, tuple) or len(value) != 2:
        return False
    return all([isinstance(part, Graph) for part in value]) and value[0].nodes == value[1].nodes


def first_apart(one, other, word, telling):
    """The least pair for which the answers of the word in two Graphs are unlike; None without any."""
    check_question(word)
    check_telling(telling)
    check_as_many_nodes(one, other)
    first = answer(one, word, telling)
    second = answer(other, word, telling)
    if telling == "whether":
        return first_apart_of(first, second)
    cells = [(x, y) for x in range(one.nodes) for y in range(one.nodes)]
    return min([(x, y) for x, y in cells if first[x][y] != second[x][y]], default=None)


def unlike_words(lot, one, other, telling):
    """The list of the words of the lot, in its sequence, whose answers in two Graphs are unlike."""
    check_telling(telling)
    check_as_many_nodes(one, other)
    return [word for word in lot if answer(one, word, telling) != answer(other, word, telling)]


def check_as_many_nodes(one, other):
    """Raises OtherNodes unless both Graphs have as many nodes."""
    if one.nodes != other.nodes:
        raise OtherNodes(one.nodes, other.nodes)
