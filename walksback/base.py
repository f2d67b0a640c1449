"""Which words of a lot are needed, and which one more word would settle a question."""

from walksback.basics import in_sequence, is_word
from walksback.checks import check_count, check_question
from walksback.errors import Settled
from walksback.lots import Lot
from walksback.places import come_to, found_at, goals_both
from walksback.settled import check_settled, is_settled


def base(lot):
    """The Lot of the words that are not needless."""
    spare = needless(lot)
    return Lot([word for word in lot if word not in spare])


def needless(lot):
    """The list of the words that the lot without them settles, in its sequence."""
    return [word for word in lot if is_settled(lot - word, word)]


def needed(lot, question):
    """The list of the words, in the lot's sequence, without which the lot does not settle the question."""
    check_question(question)
    check_settled(lot, question)
    return [word for word in lot if not is_settled(lot - word, question)]


def further(lot, question, most=24):
    """The list of the further words for the question of at most so many letters, in the sequence of words."""
    check_question(question)
    check_count(most)
    check_not_settled(lot, question)
    goals = goals_both(lot, question)
    return [word for word in words_within(question, most) if joins_all(goals, question, word)]


def is_further(lot, question, value):
    """Whether any value is a further word for the question."""
    check_question(question)
    check_not_settled(lot, question)
    return is_word(value) and joins_all(goals_both(lot, question), question, value)


def check_not_settled(lot, question):
    """Raises Settled with the question if the lot settles it."""
    if is_settled(lot, question):
        raise Settled(question)


def words_within(question, most):
    """The words of at most so many letters that stand in the question, each once, in the sequence of words."""
    size = len(question)
    found = {question[begin:end]: True for begin in range(size) for end in range(begin + 1, size + 1)
             if end - begin <= most}
    return in_sequence(list(found))


def joins_all(goals, question, word):
    """Whether bridges by this word, and what the goals of each place tell, join the first and the last place."""
    with_word = {place: list(goals[place]) for place in goals}
    for begin in found_at(question, word):
        with_word[begin].append(begin + len(word))
        with_word[begin + len(word)].append(begin)
    return len(question) in come_to(with_word, 0)
