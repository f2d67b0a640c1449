"""The errors that belong to parameters of one name wherever they occur."""

from walksback.basics import is_count, is_integer, is_letter, is_question, is_rising
from walksback.errors import (
    InvalidLetters, InvalidNode, InvalidNodes, InvalidNumber, InvalidPlace, InvalidTelling, InvalidWord,
)

LIMIT_OF_NODES = 120
MOST_LETTERS = 3
TELLINGS = ("whether", "many", "cheap")


def is_place(question, value):
    """Whether any value is a place of the question: from ahead of its first letter to behind its last one."""
    return is_integer(value) and 0 <= value <= len(question)


def is_node(nodes, value):
    """Whether any value is one of so many nodes."""
    return is_integer(value) and 0 <= value < nodes


def check_question(question):
    """Raises InvalidWord unless this is a question, or, what is the same, a word of at most 24 letters."""
    if not is_question(question):
        raise InvalidWord(question)


def check_place(question, place):
    """Raises InvalidPlace unless this is a place of the question."""
    if not is_place(question, place):
        raise InvalidPlace(place)


def check_nodes(nodes):
    """Raises InvalidNodes unless this is a number of nodes that may be passed."""
    if not is_integer(nodes) or not 1 <= nodes <= LIMIT_OF_NODES:
        raise InvalidNodes(nodes)


def check_node(nodes, node):
    """Raises InvalidNode unless this is one of so many nodes."""
    if not is_node(nodes, node):
        raise InvalidNode(node)


def check_count(number):
    """Raises InvalidNumber unless this is a COUNT."""
    if not is_count(number):
        raise InvalidNumber(number)


def check_telling(telling):
    """Raises InvalidTelling unless this is the name of a telling."""
    if not isinstance(telling, str) or telling not in TELLINGS:
        raise InvalidTelling(telling)


def check_letters(letters):
    """Raises InvalidLetters unless this is a string of one to three unlike letters, rising."""
    if not isinstance(letters, str) or not 1 <= len(letters) <= MOST_LETTERS:
        raise InvalidLetters(letters)
    if not all([is_letter(letter) for letter in letters]) or not is_rising(letters):
        raise InvalidLetters(letters)
