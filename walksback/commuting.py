"""Letters that commute: forms of words, beginnings of a question, leaps; ways and rifts, which tell what is settled."""

from walksback.answers import answer
from walksback.basics import is_letter, is_list, is_word
from walksback.checks import check_nodes, check_question
from walksback.errors import InvalidCut, InvalidPairs, InvalidPlace, InvalidWord, NotSettled, Settled, TooMany
from walksback.graphs import Graph
from walksback.places import come_to
from walksback.tables import check_kept, relation_of
from walksback.work import all_masks, masks_at_work

MOST_LETTERS = 12
MOST_BEGINNINGS = 60


class Exchanges:
    """Pairs of unlike letters that commute. Exchanges never change."""

    def __init__(self, pairs=()):
        check_exchanges(pairs)
        self._pairs = sorted([in_order(pair) for pair in pairs])
        self._known = {pair: True for pair in self._pairs}

    def pairs(self):
        """The sorted list of the pairs, the lesser letter of each first."""
        return list(self._pairs)

    def commute(self, letter, other):
        """Whether two letters commute; none does with itself."""
        return (letter, other) in self._known or (other, letter) in self._known

    def __len__(self):
        return len(self._pairs)

    def __contains__(self, x):
        return is_exchange(x) and self.commute(x[0], x[1])

    def __eq__(self, other):
        return isinstance(other, Exchanges) and self._pairs == other._pairs

    def __repr__(self):
        return f"Exchanges({self._pairs!r})"


def is_exchange(value):
    """Whether any value is a tuple of two unlike letters."""
    if not isinstance(value, tuple) or len(value) != 2:
        return False
    return is_letter(value[0]) and is_letter(value[1]) and value[0] != value[1]


def in_order(pair):
    """The pair with the lesser letter first."""
    return (min(pair), max(pair))


def check_exchanges(some):
    """Raises InvalidPairs unless this is a list of unlike pairs of unlike letters, in whatever sequence they are."""
    if not is_list(some):
        raise InvalidPairs(None)
    ahead = {}
    for position, pair in enumerate(some):
        if not is_exchange(pair) or in_order(pair) in ahead:
            raise InvalidPairs(position)
        ahead[in_order(pair)] = True


def form(exchanges, word):
    """The least of the words that are like the word."""
    check_question(word)
    return form_of(exchanges, word)


def form_of(exchanges, letters):
    """The least of what is like these letters, which may be none: ahead stands the least letter that can come there."""
    told = ""
    left = letters
    while left:
        letter = min(first_letters(exchanges, left))
        told = told + letter
        left = without(left, letter)
    return told


def first_letters(exchanges, letters):
    """The list of those of the letters that can be exchanged to the front, each once."""
    return [letter for at, letter in enumerate(letters)
            if all([exchanges.commute(letter, other) for other in letters[:at]])]


def without(letters, letter):
    """The letters without the first one that is the letter."""
    at = letters.find(letter)
    return letters[:at] + letters[at + 1:]


def left_behind(exchanges, letters, taken):
    """What is left of the letters if those that are taken are brought to the front; None if they cannot be."""
    left = letters
    for letter in taken:
        if letter not in first_letters(exchanges, left):
            return None
        left = without(left, letter)
    return left


def are_like(exchanges, one, other):
    """Whether two words come from one another by exchanging neighbours that commute."""
    check_question(one)
    check_question(other)
    return form_of(exchanges, one) == form_of(exchanges, other)


def does_keep(exchanges, graph):
    """Whether in the graph both sequences of each pair of letters that commute have the same answer."""
    return all([answer(graph, one + other, "whether") == answer(graph, other + one, "whether")
                for one, other in exchanges.pairs()])


def beginnings(exchanges, question):
    """The list of the beginnings of the question, by length, then letters."""
    check_short_question(question)
    return list(rests_of(exchanges, question))


def check_short_question(question):
    """Raises InvalidWord unless this is a word of as many letters as a question has where letters commute."""
    if not is_word(question) or len(question) > MOST_LETTERS:
        raise InvalidWord(question)


def rests_of(exchanges, question):
    """The dict from the beginnings of the question, by length, then letters, to their rests: TooMany for too many."""
    told = {"": form_of(exchanges, question)}
    longest = [""]
    for _ in question:
        found = {}
        for beginning in longest:
            rest_left = told[beginning]
            for letter in first_letters(exchanges, rest_left):
                found[form_of(exchanges, beginning + letter)] = form_of(exchanges, without(rest_left, letter))
        longest = sorted(found)
        told.update({beginning: found[beginning] for beginning in longest})
        if len(told) > MOST_BEGINNINGS:
            raise TooMany("beginnings", MOST_BEGINNINGS)
    return told


def rest(exchanges, question, beginning):
    """The rest of a beginning of the question."""
    check_short_question(question)
    if not is_beginning(exchanges, question, beginning):
        raise InvalidPlace(beginning)
    return rests_of(exchanges, question)[beginning]


def is_beginning(exchanges, question, value):
    """Whether any value is a beginning of the question; told without all others, which may be too many."""
    if not isinstance(value, str) or left_behind(exchanges, question, value) is None:
        return False
    return form_of(exchanges, value) == value


def how_many_like(exchanges, question):
    """How many words are like the question: how many ways lead to it letter by letter."""
    check_short_question(question)
    rests = rests_of(exchanges, question)
    many = {beginning: 0 for beginning in rests}
    many[""] = 1
    for beginning in rests:
        for letter in first_letters(exchanges, rests[beginning]):
            behind = form_of(exchanges, beginning + letter)
            many[behind] = many[behind] + many[beginning]
    return many[form_of(exchanges, question)]


def leaps(exchanges, lot, question):
    """The sorted list of the leaps, tuples (beginning, word, beginning)."""
    check_short_question(question)
    return leaps_among(exchanges, lot, rests_of(exchanges, question))


def leaps_among(exchanges, lot, rests):
    """The sorted list of the leaps, by the rests of all beginnings."""
    found = [(beginning, word) for beginning in rests for word in lot
             if left_behind(exchanges, rests[beginning], word) is not None]
    return sorted([(beginning, word, form_of(exchanges, beginning + word)) for beginning, word in found])


def does_settle(exchanges, lot, question):
    """Whether for all graphs that keep the exchanges the lot settles the question."""
    check_short_question(question)
    return way_of(exchanges, lot, question) is not None


def way(exchanges, lot, question):
    """The least one of the ways of the fewest steps."""
    check_short_question(question)
    told = way_of(exchanges, lot, question)
    if told is None:
        raise NotSettled(question)
    return told


def steps_by(exchanges, lot, question):
    """The sorted list of the steps by all leaps, forth and back."""
    forth = leaps_among(exchanges, lot, rests_of(exchanges, question))
    return sorted(forth + [(end, word, begin) for begin, word, end in forth])


def way_of(exchanges, lot, question):
    """The least one of the ways of the fewest steps; None if there is none."""
    steps = steps_by(exchanges, lot, question)
    left = steps_left(steps, form_of(exchanges, question))
    if "" not in left:
        return None
    told = []
    beginning = ""
    while left[beginning] > 0:
        nearer = [step for step in steps if step[0] == beginning and left[step[2]] == left[beginning] - 1]
        told.append(min(nearer))
        beginning = told[-1][2]
    return told


def steps_left(steps, last):
    """A dict from the beginnings from which steps lead to the last one to the fewest that do."""
    left = {last: 0}
    reached = [last]
    number = 0
    while reached:
        number = number + 1
        reached = sorted(set([begin for begin, _, end in steps if end in reached and begin not in left]))
        left.update({beginning: number for beginning in reached})
    return left


def is_way(exchanges, lot, question, value):
    """Whether any value is a way."""
    check_short_question(question)
    steps = {step: True for step in steps_by(exchanges, lot, question)}
    if not is_list(value):
        return False
    beginning = ""
    for step in value:
        if not is_like_leap(step) or step not in steps or step[0] != beginning:
            return False
        beginning = step[2]
    return beginning == form_of(exchanges, question)


def is_like_leap(value):
    """Whether any value is a tuple of three strings."""
    return isinstance(value, tuple) and len(value) == 3 and all([isinstance(part, str) for part in value])


def rift(exchanges, lot, question):
    """The list of the beginnings that steps lead to from the empty one, in their sequence."""
    check_short_question(question)
    return rift_of(exchanges, lot, question)


def rift_of(exchanges, lot, question):
    """The rift that is told: Settled with the question if there is none."""
    rests = rests_of(exchanges, question)
    goals = {beginning: [] for beginning in rests}
    for begin, _, end in leaps_among(exchanges, lot, rests):
        goals[begin].append(end)
        goals[end].append(begin)
    met = come_to(goals, "")
    if form_of(exchanges, question) in met:
        raise Settled(question)
    return [beginning for beginning in rests if beginning in met]


def is_rift(exchanges, lot, question, value):
    """Whether any value is a rift."""
    check_short_question(question)
    rests = rests_of(exchanges, question)
    if not is_list(value) or not all([isinstance(part, str) and part in rests for part in value]):
        return False
    inside = {part: True for part in value}
    if len(inside) < len(value) or "" not in inside or form_of(exchanges, question) in inside:
        return False
    return all([(begin in inside) == (end in inside) for begin, _, end in leaps_among(exchanges, lot, rests)])


def apart(exchanges, lot, question, rift=None):
    """The twins (plain, crossed) by a rift; by the one that is told, where none is passed."""
    check_short_question(question)
    told = rift_of(exchanges, lot, question)
    if rift is not None:
        if not is_rift(exchanges, lot, question, rift):
            raise InvalidCut(rift)
        told = list(rift)
    rests = rests_of(exchanges, question)
    return twin_graph(exchanges, rests, []), twin_graph(exchanges, rests, told)


def twin_graph(exchanges, rests, inside):
    """The graph with two nodes for each beginning; a letter of which just one end is inside changes the side."""
    numbers = {beginning: number for number, beginning in enumerate(rests)}
    ties = []
    for beginning in rests:
        for letter in first_letters(exchanges, rests[beginning]):
            behind = form_of(exchanges, beginning + letter)
            begin, first, second = 2 * numbers[beginning], 2 * numbers[behind], 2 * numbers[behind] + 1
            if (beginning in inside) != (behind in inside):
                first, second = second, first
            ties.append((begin, letter, first, 0))
            ties.append((begin + 1, letter, second, 0))
    return Graph(2 * len(rests), ties)


def told_under(exchanges, lot, question, nodes, kept):
    """The relation that the told way tells at work on kept relations."""
    check_short_question(question)
    check_nodes(nodes)
    check_kept(lot, nodes, kept)
    numbers = {beginning: number for number, beginning in enumerate(rests_of(exchanges, question))}
    # A leap leads to a longer beginning, which has a greater number, as a step forth leads to a greater place.
    steps = [(numbers[begin], word, numbers[end]) for begin, word, end in way(exchanges, lot, question)]
    return relation_of(masks_at_work(steps, nodes, kept, all_masks(nodes))[-1])
