"""Questions that grow with the kept answers: by a chain of words, or else not, by a shrinking."""

from walksback.answers import pairs
from walksback.basics import is_list
from walksback.checks import check_question
from walksback.graphs import Graph
from walksback.places import bridges, forth_from
from walksback.twins import are_two_graphs


def does_grow(lot, question):
    """Whether the question grows with the lot: whether its last place is come to forth from its first one."""
    check_question(question)
    return len(question) in forth_from(lot, question, 0)


def chain(lot, question):
    """The least one of the chains of the fewest words; None if there is none."""
    check_question(question)
    found = bridges(lot, question)
    left = words_left(found, len(question))
    if 0 not in left:
        return None
    told = []
    place = 0
    while place != len(question):
        nearer = [(word, end) for begin, end, word in found
                  if begin == place and end in left and left[end] == left[place] - 1]
        word, place = min(nearer)
        told.append(word)
    return told


def words_left(found, last):
    """For each place from which bridges lead forth to the last place, the fewest that do, by the sorted bridges."""
    left = {last: 0}
    for begin, end, _ in found[::-1]:
        if end in left:
            left[begin] = min(left.get(begin, left[end] + 1), left[end] + 1)
    return left


def is_chain(lot, question, value):
    """Whether any value is a list of words of the lot that are the question if joined."""
    check_question(question)
    if not is_list(value) or not all([word in lot for word in value]):
        return False
    return "".join(value) == question


def chain_count(lot, question):
    """How many chains there are."""
    found = bridges(lot, question)
    many = [1] + [0] * len(question)
    for begin, end, _ in found:
        many[end] = many[end] + many[begin]
    return many[-1]


def shrinking(lot, question):
    """The told shrinking, a tuple of two Graphs; None if the question grows."""
    if does_grow(lot, question):
        return None
    ahead = forth_from(lot, question, 0)
    stands = [2 * place + 1 if place in ahead else 2 * place for place in range(len(question) + 1)]
    first = []
    second = []
    for place, letter in enumerate(question):
        low, high = 2 * place, 2 * place + 2
        first.append((stands[place], letter, stands[place + 1], 0))
        for begin, end in ((low, high), (low, high + 1), (low + 1, high + 1)):
            second.append((begin, letter, end, 0))
    nodes = 2 * len(question) + 2
    return Graph(nodes, first), Graph(nodes, second)


def is_shrinking(lot, question, value):
    """Whether any value is a shrinking of the question by the lot."""
    check_question(question)
    if not are_two_graphs(value):
        return False
    one, other = value
    return all([lacks_nothing(one, other, word) for word in lot]) and not lacks_nothing(one, other, question)


def lacks_nothing(one, other, word):
    """Whether all pairs of the word in one Graph are pairs of it in the other one."""
    known = {pair: True for pair in pairs(other, word)}
    return all([pair in known for pair in pairs(one, word)])
