"""The rings of a lot, whose folding tells what turns it settles: ties, moves by signs, folds."""


def is_sign(value):
    """Whether any value is a letter, or a capital."""
    return isinstance(value, str) and len(value) == 1 and ("a" <= value <= "z" or "A" <= value <= "Z")


def is_back(sign):
    """Whether a sign is a capital: its letter is gone back."""
    return sign != sign.lower()


def rings(lot):
    """The sorted list of the ties of the rings of a lot, tuples (node, letter, node); the root is node 0."""
    return sorted([tie for word, first in first_numbers(lot) for tie in ring(word, first)])


def first_numbers(lot):
    """The list of tuples of a word of the lot, in its sequence, and the first number that its ring uses."""
    told = []
    used = 1
    for word in lot:
        told.append((word, used))
        used = used + len(word) - 1
    return told


def ring(word, first):
    """The ties of the ring of a word, from the root round to the root, over the numbers from the first on."""
    between = list(range(first, first + len(word) - 1))
    nodes = [0, *between, 0]
    return [(nodes[at], letter, nodes[at + 1]) for at, letter in enumerate(word)]


def moves(ties):
    """The sorted list of tuples (node, sign, node): the ties gone forth by their letters, and back by capitals."""
    return sorted(ties + [(end, letter.upper(), begin) for begin, letter, end in ties])


def first_fold(ties):
    """The first fold that two moves from one node by one sign make, the moves being sorted; None without any."""
    known = moves(ties)
    for at in range(len(known) - 1):
        if known[at][:2] == known[at + 1][:2]:
            return known[at][1], known[at][2], known[at + 1][2]
    return None


def folded(ties, fold):
    """The sorted list of the unlike ties behind a fold."""
    _, one, other = fold
    names = {other: one}
    return sorted(set([(names.get(begin, begin), letter, names.get(end, end)) for begin, letter, end in ties]))


def all_folds(ties):
    """A tuple of the list of folds, one behind another, until none is left, and the ties behind them."""
    told = []
    left = ties
    fold = first_fold(left)
    while fold is not None:
        told.append(fold)
        left = folded(left, fold)
        fold = first_fold(left)
    return told, left


def numbered(ties):
    """The sorted ties of a folded net with the numbers that the nodes get as they are come to from the root."""
    known = moves(ties)
    numbers = {0: 0}
    order = [0]
    at = 0
    while at < len(order):
        goals = {sign: end for begin, sign, end in known if begin == order[at]}
        for sign in sorted(goals, key=sign_key):
            if goals[sign] not in numbers:
                numbers[goals[sign]] = len(order)
                order.append(goals[sign])
        at = at + 1
    return sorted([(numbers[begin], letter, numbers[end]) for begin, letter, end in ties])


def sign_key(sign):
    """What the sequence of signs hangs on: the letter, then whether it is gone back."""
    return (sign.lower(), is_back(sign))


def goals_of(ties):
    """For each node of a folded net, the root at least, the dict of where the signs lead from it."""
    last = max([max(tie[0], tie[2]) for tie in ties], default=0)
    told = [{} for _ in range(last + 1)]
    for begin, sign, end in moves(ties):
        told[begin][sign] = end
    return told


def shared_begin(known, fold):
    """The least node from which the sign of a fold leads to both of its nodes, by the moves; None without any."""
    sign, one, other = fold
    to_one = {begin: True for begin, letter, end in known if (letter, end) == (sign, one)}
    shared = [begin for begin, letter, end in known if (letter, end) == (sign, other) and begin in to_one]
    return min(shared, default=None)


def nodes_behind(ties, signs):
    """The sorted list of the nodes to which the signs lead from the root by some walk."""
    known = moves(ties)
    told = [0]
    for sign in signs:
        told = sorted(set([end for begin, letter, end in known if letter == sign and begin in told]))
    return told
