"""Lots, graphs and kept relations as texts, and read back from them."""

from walksback.basics import sequence_key
from walksback.checks import check_nodes
from walksback.errors import InvalidText
from walksback.graphs import Graph, is_tie
from walksback.lots import Lot, is_lot_word
from walksback.tables import check_kept, is_pair

MOST_DIGITS = 4


def lot_text(lot):
    """The text of a lot."""
    return "".join([f"word {word}\n" for word in lot])


def graph_text(graph):
    """The text of a graph."""
    ties = [f"tie {begin} {letter} {end} {cost}\n" for begin, letter, end, cost in graph]
    return "".join([f"nodes {graph.nodes}\n", *ties])


def kept_text(lot, nodes, kept):
    """The text of kept relations."""
    check_nodes(nodes)
    check_kept(lot, nodes, kept)
    return "".join([f"kept {word}\n" + pairs_text(kept[word]) for word in lot])


def pairs_text(relation):
    """The lines of the pairs of a relation."""
    return "".join([f"pair {x} {y}\n" for x, y in relation])


def lines_of(text):
    """The list of the lines of a text, each as the list of its words: InvalidText for what is no string."""
    if not isinstance(text, str):
        raise InvalidText(1)
    rows = text.split("\n")
    last = rows.pop()
    # A last line without a line feed is as wrong, whatever stands in it, as an empty one.
    if last != "":
        rows.append("")
    return [row.split(" ") for row in rows]


def number_in(digits):
    """The COUNT that stands in a text, which has few digits and no needless zeros; None for anything else."""
    if not 1 <= len(digits) <= MOST_DIGITS or not all(["0" <= digit <= "9" for digit in digits]):
        return None
    if digits[0] == "0" and len(digits) > 1:
        return None
    return int(digits)


def read_lot(text):
    """The Lot that has this text: InvalidText with the wrong line."""
    words = []
    for line, parts in enumerate(lines_of(text), start=1):
        if len(parts) != 2 or parts[0] != "word" or not goes_on(words, parts[1]):
            raise InvalidText(line)
        words.append(parts[1])
    return Lot(words)


def goes_on(words, word):
    """Whether a lot may have this word behind some others, in their sequence."""
    if not is_lot_word(word) or len(words) == Lot.MOST_WORDS:
        return False
    return len(words) == 0 or sequence_key(words[-1]) < sequence_key(word)


def read_graph(text):
    """The Graph that has this text: InvalidText with the wrong line."""
    lines = lines_of(text)
    nodes = nodes_in_line(lines[0]) if lines else None
    if nodes is None:
        raise InvalidText(1)
    ties = []
    for line, parts in enumerate(lines[1:], start=2):
        tie = tie_in_line(nodes, parts)
        if tie is None or len(ties) == Graph.MOST_TIES or (ties and tie[:3] <= ties[-1][:3]):
            raise InvalidText(line)
        ties.append(tie)
    return Graph(nodes, ties)


def nodes_in_line(parts):
    """The number of nodes that a line tells; None if it tells none."""
    if len(parts) != 2 or parts[0] != "nodes":
        return None
    nodes = number_in(parts[1])
    return nodes if nodes is not None and 1 <= nodes <= Graph.MOST_NODES else None


def tie_in_line(nodes, parts):
    """The tie of so many nodes that a line tells; None if it tells none."""
    if len(parts) != 5 or parts[0] != "tie":
        return None
    tie = (number_in(parts[1]), parts[2], number_in(parts[3]), number_in(parts[4]))
    return tie if is_tie(nodes, tie) else None


def read_kept(lot, nodes, text):
    """The kept relations of so many nodes that have this text: InvalidText with the wrong line."""
    check_nodes(nodes)
    lines = lines_of(text)
    words = lot.words()
    told = {}
    relation = None
    for line, parts in enumerate(lines, start=1):
        pair = pair_in_line(nodes, parts)
        if len(told) < len(words) and parts == ["kept", words[len(told)]]:
            relation = []
            told[words[len(told)]] = relation
        elif pair is not None and relation is not None and (not relation or relation[-1] < pair):
            relation.append(pair)
        else:
            raise InvalidText(line)
    if len(told) < len(words):
        raise InvalidText(len(lines) + 1)
    return told


def pair_in_line(nodes, parts):
    """The pair of so many nodes that a line tells; None if it tells none."""
    if len(parts) != 3 or parts[0] != "pair":
        return None
    pair = (number_in(parts[1]), number_in(parts[2]))
    return pair if is_pair(nodes, pair) else None
