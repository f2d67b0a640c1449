"""Which words to keep beside a lot, and how cheaply: choices, and trees that show that none is cheaper."""

from walksback.basics import in_sequence, is_count, is_integer, is_list, is_question
from walksback.checks import check_count
from walksback.errors import InvalidPrices, InvalidQuestions, TooMany
from walksback.lots import Lot, is_lot_word
from walksback.places import come_to, found_at
from walksback.settled import is_cut

MOST_PRICES = 10
MOST_QUESTIONS = 4


class Offer:
    """A kept lot, words with prices, and questions, with what is asked of them again and again. It never changes."""

    def __init__(self, lot, prices, questions):
        self.held = lot.words()
        self.offered = in_sequence(list(prices))
        self.prices = {word: prices[word] for word in self.offered}
        self.questions = list(questions)
        known = [*self.held, *self.offered]
        self.found = [{word: found_at(question, word) for word in known} for question in self.questions]

    def price(self, words):
        """The sum of the prices of the words."""
        return sum([self.prices[word] for word in words])

    def joined(self, position, taken):
        """The places of the question at the position that the lot and the words taken join to place 0."""
        goals = {place: [] for place in range(len(self.questions[position]) + 1)}
        for word in [*self.held, *taken]:
            for begin in self.found[position][word]:
                goals[begin].append(begin + len(word))
                goals[begin + len(word)].append(begin)
        return come_to(goals, 0)

    def first_open(self, taken):
        """The position of the first question that the lot and the words taken do not settle; None without any."""
        for position, question in enumerate(self.questions):
            if len(question) not in self.joined(position, taken):
                return position
        return None

    def crosses(self, position, places, word):
        """Whether the word stands between two places of the question of which just one is among the places."""
        begins = self.found[position][word]
        return any([(begin in places) != (begin + len(word) in places) for begin in begins])


def offer_of(lot, prices, questions):
    """The Offer of what is passed, without its errors."""
    check_prices(prices)
    check_questions(questions)
    check_sizes(prices, questions)
    return Offer(lot, prices, questions)


def offer_up_to(lot, prices, questions, number):
    """The Offer of what is passed beside a number, without the errors of them all."""
    check_prices(prices)
    check_questions(questions)
    check_count(number)
    check_sizes(prices, questions)
    return Offer(lot, prices, questions)


def check_prices(prices):
    """Raises InvalidPrices unless this is a dict from words that a Lot may have to COUNTS."""
    if not isinstance(prices, dict) or not all([is_lot_word(word) for word in prices]):
        raise InvalidPrices(prices)
    if not all([is_count(price) for price in prices.values()]):
        raise InvalidPrices(prices)


def check_questions(questions):
    """Raises InvalidQuestions unless this is a list of one or more unlike questions."""
    if not is_list(questions) or len(questions) == 0:
        raise InvalidQuestions(None)
    for position, question in enumerate(questions):
        if not is_question(question) or question in questions[:position]:
            raise InvalidQuestions(position)


def check_sizes(prices, questions):
    """Raises TooMany for more words with prices, or more questions, than may be passed."""
    if len(prices) > MOST_PRICES:
        raise TooMany("words", MOST_PRICES)
    if len(questions) > MOST_QUESTIONS:
        raise TooMany("questions", MOST_QUESTIONS)


def choices(offer):
    """The list of all choices, as lists of words: those of fewer words first, those of as many by their positions."""
    many = len(offer.offered)
    some = [[position for position in range(many) if (number >> position) & 1 == 1] for number in range(1 << many)]
    taken = [[offer.offered[position] for position in positions] for positions in sorted(some, key=choice_key)]
    return [words for words in taken if offer.first_open(words) is None]


def choice_key(positions):
    """What the sequence of choices hangs on: how many words there are, then their positions."""
    return (len(positions), positions)


def cheapest_words(offer):
    """The words of the cheapest choice; None if there is none."""
    # Of equal ones min takes the first, and the choices are sorted already.
    return min(choices(offer), key=lambda words: offer.price(words), default=None)


def least_price(lot, prices, questions):
    """The price of the cheapest choice; None if there is none."""
    offer = offer_of(lot, prices, questions)
    words = cheapest_words(offer)
    return None if words is None else offer.price(words)


def cheapest(lot, prices, questions):
    """The cheapest choice, a Lot; None if there is none."""
    words = cheapest_words(offer_of(lot, prices, questions))
    return None if words is None else Lot(words)


def least_choices(lot, prices, questions):
    """The sorted list of all least choices, Lots."""
    found = choices(offer_of(lot, prices, questions))
    known = {tuple(words): True for words in found}
    return [Lot(words) for words in found if not any([tuple(less) in known for less in all_but_one(words)])]


def all_but_one(words):
    """The lists of the words without one of them."""
    return [words[:at] + words[at + 1:] for at in range(len(words))]


def is_choice(lot, prices, questions, value):
    """Whether any value is a Lot that is a choice."""
    offer = offer_of(lot, prices, questions)
    if not isinstance(value, Lot) or not all([word in offer.prices for word in value]):
        return False
    return offer.first_open(value.words()) is None


def tree(lot, prices, questions, number):
    """A tree which shows that no choice has a price of the number or less; None if some choice has one."""
    offer = offer_up_to(lot, prices, questions, number)
    if any([offer.price(words) <= number for words in choices(offer)]):
        return None
    return tree_behind(offer, number, [], [])


def tree_behind(offer, number, taken, left):
    """The tree with these words taken and left; none of the questions' choices within the number is beyond them."""
    position = offer.first_open(taken)
    places = offer.joined(position, taken)
    branches = []
    for word in branch_words(offer, number, taken, left, position, places):
        ahead = [known for known, _ in branches]
        branches.append((word, tree_behind(offer, number, [*taken, word], [*left, *ahead])))
    return position, places, branches


def branch_words(offer, number, taken, left, position, places):
    """The words of the branches of a tree, in sequence, by what is taken and left and by its cut."""
    free = [word for word in offer.offered if word not in taken and word not in left]
    paid = offer.price(taken)
    return [word for word in free
            if paid + offer.prices[word] <= number and offer.crosses(position, places, word)]


def is_tree(lot, prices, questions, number, value):
    """Whether any value is a tree which shows that no choice has a price of the number or less."""
    offer = offer_up_to(lot, prices, questions, number)
    return is_tree_behind(offer, number, [], [], value)


def is_tree_behind(offer, number, taken, left, value):
    """Whether any value is a tree with these words taken and left."""
    if not isinstance(value, tuple) or len(value) != 3:
        return False
    position, places, branches = value
    if not is_integer(position) or not 0 <= position < len(offer.questions) or not is_list(branches):
        return False
    if not is_cut([*offer.held, *taken], offer.questions[position], places):
        return False
    words = branch_words(offer, number, taken, left, position, places)
    if len(branches) != len(words):
        return False
    for at, word in enumerate(words):
        if not is_branch(offer, number, taken, [*left, *words[:at]], word, branches[at]):
            return False
    return True


def is_branch(offer, number, taken, left, word, value):
    """Whether any value is a tuple of this word and a tree with it taken, too."""
    if not isinstance(value, tuple) or len(value) != 2:
        return False
    if not isinstance(value[0], str) or value[0] != word:
        return False
    return is_tree_behind(offer, number, [*taken, word], left, value[1])
