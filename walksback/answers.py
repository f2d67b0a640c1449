"""The answers of a word in a graph, in the three tellings, and the walks with it."""

from walksback.basics import backwards, is_list
from walksback.checks import check_node, check_question, check_telling, is_node
from walksback.graphs import Graph, SoundTies
from walksback.tables import relation_of


def pairs(graph, word):
    """The relation of the pairs from whose first node a walk with the word leads to the second one."""
    check_question(word)
    masks = [1 << node for node in range(graph.nodes)]
    for letter in backwards(word):
        masks = masks_ahead(graph, letter, masks)
    return relation_of(masks)


def masks_ahead(graph, letter, masks):
    """For each node where its ties with the letter and walks behind them lead, told by bits as those are."""
    told = [0] * len(masks)
    for begin, sign, goal, _ in graph:
        if sign == letter:
            told[begin] = told[begin] | masks[goal]
    return told


def counts(graph, word):
    """The matrix of how many walks with the word there are."""
    check_question(word)
    rows = [[1 if x == y else 0 for y in range(graph.nodes)] for x in range(graph.nodes)]
    for letter in backwards(word):
        rows = counts_ahead(graph, letter, rows)
    return rows


def counts_ahead(graph, letter, rows):
    """For each node and end how many walks there are: a tie with the letter, then those that the rows count."""
    told = [[0] * len(rows) for _ in rows]
    for begin, sign, goal, _ in graph:
        if sign == letter:
            told[begin] = [many + more for many, more in zip(told[begin], rows[goal])]
    return told


def costs(graph, word):
    """The cost table of the least costs of walks with the word."""
    check_question(word)
    rows = [[0 if x == y else None for y in range(graph.nodes)] for x in range(graph.nodes)]
    for letter in backwards(word):
        rows = costs_ahead(graph, letter, rows)
    return rows


def costs_ahead(graph, letter, rows):
    """For each node and end the least cost: that of a tie with the letter and what the rows tell behind it."""
    told = [[None] * len(rows) for _ in rows]
    for begin, sign, goal, cost in graph:
        if sign == letter:
            told[begin] = [lesser_cost(known, cost, rest) for known, rest in zip(told[begin], rows[goal])]
    return told


def lesser_cost(known, cost, rest):
    """The lesser one of a known cost and the sum of two others; None where there is none."""
    if rest is None:
        return known
    if known is None or cost + rest < known:
        return cost + rest
    return known


def answer(graph, word, telling):
    """The answer of the word in this telling."""
    check_question(word)
    check_telling(telling)
    if telling == "whether":
        return pairs(graph, word)
    if telling == "many":
        return counts(graph, word)
    return costs(graph, word)


def kept(graph, lot, telling):
    """The kept answers: a dict from the words of the lot, in its sequence, to their answers in this telling."""
    check_telling(telling)
    return {word: answer(graph, word, telling) for word in lot}


def many_walks(graph, word):
    """How many walks with the word there are."""
    return sum([sum(row) for row in counts(graph, word)])


def walk(graph, word, begin, end):
    """The least walk with the word from begin to end; None if there is none."""
    # Where no tie costs anything, each walk is one of the least cost.
    free = [(node, letter, goal, 0) for node, letter, goal, _ in graph]
    return cheapest_walk(Graph(graph.nodes, SoundTies(free)), word, begin, end)


def cheapest_walk(graph, word, begin, end):
    """The least one of the walks of the least cost with the word from begin to end; None if there is none."""
    check_question(word)
    check_node(graph.nodes, begin)
    check_node(graph.nodes, end)
    rests = costs_of_rests(graph, word, end)
    if begin not in rests[0]:
        return None
    nodes = [begin]
    for position, letter in enumerate(word):
        left = rests[position][nodes[-1]]
        behind = rests[position + 1]
        ties = graph.at(nodes[-1], letter)
        nodes.append(min([goal for goal, cost in ties if goal in behind and cost + behind[goal] == left]))
    return nodes


def costs_of_rests(graph, word, end):
    """For each place of the word a dict from the nodes from which its rest leads to the end to the least cost."""
    rests = [{end: 0}]
    for letter in backwards(word):
        rests.append(costs_of_longer_rest(graph, letter, rests[-1]))
    return rests[::-1]


def costs_of_longer_rest(graph, letter, behind):
    """The dict of the rest that has this letter ahead of another rest, by the dict of that one."""
    told = {}
    for begin, sign, goal, cost in graph:
        if sign == letter and goal in behind:
            told[begin] = lesser_cost(told.get(begin), cost, behind[goal])
    return told


def is_walk(graph, word, value):
    """Whether any value is a walk with the word."""
    check_question(word)
    if not is_list(value) or len(value) != len(word) + 1:
        return False
    if not all([is_node(graph.nodes, node) for node in value]):
        return False
    leads = {tie[:3]: True for tie in graph}
    return all([(value[place], letter, value[place + 1]) in leads for place, letter in enumerate(word)])
