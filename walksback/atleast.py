"""What is at least there, if only the kept pairs are known to be: sure pairs, sure chains, the made graph."""

from walksback.basics import is_list
from walksback.checks import check_nodes, check_question
from walksback.errors import TooMany
from walksback.graphs import Graph, check_number_of_ties
from walksback.places import bridges
from walksback.tables import check_kept, check_pair, is_pair, joined_rows, relation_of, row_masks


def sure(lot, question, nodes, kept):
    """The relation of the sure pairs."""
    check_question(question)
    check_nodes(nodes)
    check_kept(lot, nodes, kept)
    rows = {word: row_masks(nodes, kept[word]) for word in kept}
    masks = [[0] * nodes for _ in range(len(question) + 1)]
    masks[-1] = [1 << node for node in range(nodes)]
    # From the last bridge on, so that all chains from the place behind a bridge are known.
    for begin, end, word in bridges(lot, question)[::-1]:
        behind = masks[end]
        masks[begin] = [ahead | joined_rows(row, behind) for ahead, row in zip(masks[begin], rows[word])]
    return relation_of(masks[0])


def chain_of(lot, question, nodes, kept, pair):
    """The least one of the sure chains of the pair with the fewest tuples; None if there is none."""
    check_question(question)
    check_nodes(nodes)
    check_kept(lot, nodes, kept)
    check_pair(nodes, pair)
    found = bridges(lot, question)
    left = tuples_left(found, kept, len(question), pair[1])
    if pair[0] not in left[0]:
        return None
    told = []
    place, node = 0, pair[0]
    while place != len(question):
        nearer = [(step, end) for begin, end, word in found if begin == place
                  for step in tuples_from(kept, word, node) if left[end].get(step[2]) == left[place][node] - 1]
        chosen, place = min(nearer)
        told.append(chosen)
        node = chosen[2]
    return told


def tuples_left(found, kept, last, goal):
    """For each place a dict from the nodes from which sure chains lead to the goal at the last one to the fewest."""
    left = [{} for _ in range(last + 1)]
    left[last][goal] = 0
    for begin, end, word in found[::-1]:
        behind = left[end]
        for x, y in kept[word]:
            if y in behind:
                left[begin][x] = min(left[begin].get(x, behind[y] + 1), behind[y] + 1)
    return left


def tuples_from(kept, word, node):
    """The tuples (node, word, node) of the kept pairs of the word that lead from the node."""
    return [(x, word, y) for x, y in kept[word] if x == node]


def is_chain_of(lot, question, nodes, kept, pair, value):
    """Whether any value is a sure chain of the pair."""
    check_question(question)
    check_nodes(nodes)
    check_kept(lot, nodes, kept)
    check_pair(nodes, pair)
    if not is_list(value):
        return False
    known = {word: {both: True for both in kept[word]} for word in kept}
    node = pair[0]
    for step in value:
        if not is_kept_tuple(nodes, known, step) or step[0] != node:
            return False
        node = step[2]
    return node == pair[1] and "".join([step[1] for step in value]) == question


def is_kept_tuple(nodes, known, value):
    """Whether any value is a tuple (node, word, node) of a kept pair of its word."""
    if not isinstance(value, tuple) or len(value) != 3:
        return False
    x, word, y = value
    return isinstance(word, str) and word in known and is_pair(nodes, (x, y)) and (x, y) in known[word]


def made(lot, nodes, kept):
    """The Graph with a walk for each kept pair, through nodes of its own."""
    check_nodes(nodes)
    check_kept(lot, nodes, kept)
    if nodes + sum([(len(word) - 1) * len(kept[word]) for word in lot]) > Graph.MOST_NODES:
        raise TooMany("nodes", Graph.MOST_NODES)
    check_number_of_ties(sum([len(word) * len(kept[word]) for word in lot]))
    ties = []
    used = nodes
    for word in lot:
        for begin, end in kept[word]:
            further = list(range(used, used + len(word) - 1))
            ties.extend(ties_of_walk(word, [begin, *further, end]))
            used = used + len(further)
    return Graph(used, ties)


def ties_of_walk(word, walk):
    """The ties of a walk with the word, which cost nothing."""
    return [(walk[place], letter, walk[place + 1], 0) for place, letter in enumerate(word)]
