"""Letters that turn all nodes: signed words, turns, the folded net of a lot; folds and twins show what it settles."""

from walksback.basics import is_integer, is_letter, is_list
from walksback.errors import InvalidKept, InvalidMaps, InvalidNodes, InvalidWord, NotSettled, Settled
from walksback.graphs import Graph, SoundTies, is_order
from walksback.rings import (
    all_folds, first_numbers, folded, goals_of, is_back, is_sign, moves, nodes_behind, numbered, ring, rings,
    shared_begin,
)
from walksback.tables import has_words, nodes_of

MOST_SIGNS = 12
MOST_NODES = 300


class Turns:
    """For each of some letters a list that tells where it leads each node, no two to one. Turns never change."""

    def __init__(self, nodes, maps):
        if not is_integer(nodes) or not 1 <= nodes <= MOST_NODES:
            raise InvalidNodes(nodes)
        if not are_maps(nodes, maps):
            raise InvalidMaps(maps)
        self._nodes = nodes
        self._maps = {letter: list(maps[letter]) for letter in sorted(maps)}

    @property
    def nodes(self):
        """How many nodes there are."""
        return self._nodes

    def letters(self):
        """The string of the letters, rising."""
        return "".join(list(self._maps))

    def turn(self, signed):
        """The list that tells where the signed word leads each node."""
        if not is_signed(signed) or not all([sign.lower() in self._maps for sign in signed]):
            raise InvalidWord(signed)
        told = list(range(self._nodes))
        for sign in signed:
            step = self._maps[sign] if sign in self._maps else turned_back(self._maps[sign.lower()])
            told = one_behind(told, step)
        return told

    def graph(self):
        """The Graph of what the letters lead to; no tie costs anything."""
        rows = [(node, letter, goal, 0) for letter in self._maps for node, goal in enumerate(self._maps[letter])]
        return Graph(self._nodes, SoundTies(rows))

    def __eq__(self, other):
        return isinstance(other, Turns) and self._nodes == other._nodes and self._maps == other._maps


class Net:
    """The folded net of a lot. A Net never changes."""

    def __init__(self, lot):
        _, ties = all_folds(rings(lot))
        self._ties = numbered(ties)
        self._goals = goals_of(self._ties)

    def ties(self):
        """The sorted list of the ties, tuples (node, letter, node)."""
        return list(self._ties)

    def leads(self, signed):
        """The node to which the signed word, as it stands, leads from the root; None if a tie lacks."""
        check_signed(signed)
        node = 0
        for sign in signed:
            node = self._goals[node].get(sign)
            if node is None:
                return None
        return node

    def rank(self):
        """How many ties there are, less the nodes, and 1 more."""
        return len(self._ties) - len(self._goals) + 1

    def __len__(self):
        return len(self._goals)

    def __eq__(self, other):
        return isinstance(other, Net) and self._ties == other._ties


def is_signed(value):
    """Whether any value is a signed word that may be asked."""
    if not isinstance(value, str) or not 1 <= len(value) <= MOST_SIGNS:
        return False
    return all([is_sign(sign) for sign in value])


def check_signed(signed):
    """Raises InvalidWord unless this is a signed word that may be asked."""
    if not is_signed(signed):
        raise InvalidWord(signed)


def are_maps(nodes, value):
    """Whether any value is a dict from letters to lists with each of so many nodes once."""
    if not isinstance(value, dict) or not all([is_letter(letter) for letter in value]):
        return False
    return all([is_order(nodes, goals) for goals in value.values()])


def reduced(signed):
    """The signed word without letters beside their own capitals; perhaps the empty string."""
    check_signed(signed)
    told = ""
    for sign in signed:
        if told.endswith(sign.swapcase()):
            told = told[:-1]
        else:
            told = told + sign
    return told


def gone_back(signed):
    """The signed word gone back, from its end on."""
    check_signed(signed)
    return signed[::-1].swapcase()


def one_behind(one, other):
    """The turn that leads as the one does, and then as the other one does."""
    return [other[node] for node in one]


def turned_back(turn):
    """The turn that leads each node back to where the turn leads it from."""
    told = [0] * len(turn)
    for node, goal in enumerate(turn):
        told[goal] = node
    return told


def does_settle_turn(lot, signed):
    """Whether for all turns the lot settles the turn of the signed word."""
    signs = reduced(signed)
    return signs == "" or Net(lot).leads(signs) == 0


def check_settled_turn(lot, signed):
    """Raises NotSettled with the signed word unless the lot settles its turn."""
    if not does_settle_turn(lot, signed):
        raise NotSettled(signed)


def folds(lot, signed):
    """Folds that show that the lot settles the turn of the signed word."""
    check_signed(signed)
    check_settled_turn(lot, signed)
    told, _ = all_folds(rings(lot))
    return told


def are_folds(lot, signed, value):
    """Whether any value is a list of folds that show that the lot settles the turn of the signed word."""
    signs = reduced(signed)
    if not is_list(value):
        return False
    ties = rings(lot)
    for fold in value:
        if not is_fold(ties, fold):
            return False
        ties = folded(ties, fold)
    return 0 in nodes_behind(ties, signs)


def is_fold(ties, value):
    """Whether any value is a fold of what these ties make."""
    if not isinstance(value, tuple) or len(value) != 3:
        return False
    sign, one, other = value
    if not is_sign(sign) or not is_integer(one) or not is_integer(other) or not one < other:
        return False
    return shared_begin(moves(ties), value) is not None


def turn_twins(lot, signed):
    """Two Turns in which all words of the lot turn alike, and the signed word does not."""
    check_signed(signed)
    if does_settle_turn(lot, signed):
        raise Settled(signed)
    ties = with_walk(Net(lot), reduced(signed))
    nodes = len(goals_of(ties))
    letters = sorted(set(lot.letters() + signed.lower()))
    maps = {letter: filled(nodes, {begin: end for begin, sign, end in ties if sign == letter}) for letter in letters}
    twice = {letter: goals + [nodes + goal for goal in goals] for letter, goals in maps.items()}
    crossed = {letter: exchanged(goals, nodes) for letter, goals in twice.items()}
    return Turns(2 * nodes, twice), Turns(2 * nodes, crossed)


def with_walk(net, signs):
    """The ties of a net, and those over new nodes that lack for a walk with the reduced signs from the root."""
    told = net.ties()
    goals = goals_of(told)
    node = 0
    fresh = len(net)
    for sign in signs:
        if node < len(net) and sign in goals[node]:
            node = goals[node][sign]
        else:
            told.append((fresh, sign.lower(), node) if is_back(sign) else (node, sign, fresh))
            node = fresh
            fresh = fresh + 1
    return told


def filled(nodes, goals):
    """The turn that leads some nodes to their goals, and the others, in sequence, to the nodes that are left."""
    met = {goal: True for goal in goals.values()}
    begins = [node for node in range(nodes) if node not in goals]
    ends = [node for node in range(nodes) if node not in met]
    added = {begin: end for begin, end in zip(begins, ends)}
    return [goals[node] if node in goals else added[node] for node in range(nodes)]


def exchanged(turn, other):
    """The turn with the numbers of node 0 and another one exchanged."""
    names = list(range(len(turn)))
    names[0], names[other] = other, 0
    return [names[turn[names[node]]] for node in range(len(turn))]


def are_turn_twins(lot, signed, value):
    """Whether any value is a tuple of two Turns which show that the lot does not settle the turn of the signed word."""
    check_signed(signed)
    if not isinstance(value, tuple) or len(value) != 2 or not all([isinstance(part, Turns) for part in value]):
        return False
    one, other = value
    letters = lot.letters() + signed.lower()
    if one.nodes != other.nodes or not all([letter in part.letters() for part in value for letter in letters]):
        return False
    return all([one.turn(word) == other.turn(word) for word in lot]) and one.turn(signed) != other.turn(signed)


def told_turn(lot, signed, kept):
    """The turn of the signed word, told from those of the words of the lot."""
    check_signed(signed)
    check_kept_turns(lot, kept)
    check_settled_turn(lot, signed)
    weights = {tie: list(range(nodes_of(kept))) for tie in rings(lot)}
    for word, first in first_numbers(lot):
        # On the first tie of its ring stands all that the word turns, on the others nothing.
        weights[ring(word, first)[0]] = list(kept[word])
    found, _ = all_folds(rings(lot))
    for fold in found:
        weights = folded_weights(weights, fold)
    return turn_of_walk(weights, reduced(signed), nodes_of(kept))


def check_kept_turns(lot, kept):
    """Raises InvalidKept unless this is a dict from just the words of the lot, one at least, to turns of some nodes."""
    if not has_words(lot, kept) or nodes_of(kept) == 0:
        raise InvalidKept(kept)
    if not all([is_order(nodes_of(kept), kept[word]) for word in kept]):
        raise InvalidKept(kept)


def folded_weights(weights, fold):
    """
    The turns that stand on the ties behind a fold, by those ahead of it.
    At the node that goes they are changed such that both moves of the fold turn alike; walks round from the root stay.
    """
    sign, one, other = fold
    begin = shared_begin(moves(list(weights)), fold)
    change = one_behind(turned_back(weight_of(weights, (begin, sign, other))), weight_of(weights, (begin, sign, one)))
    stay = list(range(len(change)))
    told = {}
    for (start, letter, end), weight in weights.items():
        ahead = turned_back(change) if start == other else stay
        behind = change if end == other else stay
        told[folded([(start, letter, end)], fold)[0]] = one_behind(one_behind(ahead, weight), behind)
    return told


def weight_of(weights, move):
    """The turn of a move, by the turns that stand on the ties."""
    begin, sign, end = move
    if is_back(sign):
        return turned_back(weights[(end, sign.lower(), begin)])
    return weights[move]


def turn_of_walk(weights, signs, nodes):
    """The turn of the walk with the signs from the root, by the turns that stand on the ties of a folded net."""
    known = moves(list(weights))
    told = list(range(nodes))
    node = 0
    for sign in signs:
        move = [some for some in known if some[:2] == (node, sign)][0]
        told = one_behind(told, weight_of(weights, move))
        node = move[2]
    return told
