"""Claims about lots, whether they are true, and the papers that show that they are."""

from walksback.allwords import check_short_words, family, is_family
from walksback.answers import pairs
from walksback.atleast import chain_of, is_chain_of, made
from walksback.checks import check_count, check_letters, check_nodes, check_question, check_telling
from walksback.choosing import cheapest, is_choice, is_tree, offer_up_to, tree
from walksback.errors import InvalidClaim, LimitError, WalkError
from walksback.graphs import Graph
from walksback.growing import chain, is_chain, is_shrinking, shrinking
from walksback.likelots import covers
from walksback.lots import Lot, check_lot
from walksback.places import joined_to
from walksback.plans import are_ranks, ranks
from walksback.settled import cut, is_cut, is_plan, is_settled, plan
from walksback.tables import check_kept, check_pair, has_words
from walksback.turns import are_folds, are_turn_twins, check_signed, does_settle_turn, folds, turn_twins
from walksback.twins import is_parting, twins


def check_asked(lot, question):
    """Raises an error unless these are the parts of a claim about a question."""
    check_question(question)


def check_parted(lot, question, telling):
    """Raises an error unless these are the parts of a claim about a parting."""
    check_question(question)
    check_telling(telling)


def check_backs(lot, question, number):
    """Raises an error unless these are the parts of a claim about steps back."""
    check_question(question)
    check_count(number)


def check_priced(lot, prices, questions, number):
    """Raises an error unless these are the parts of a claim about a price."""
    offer_up_to(lot, prices, questions, number)


def check_sure(lot, question, nodes, kept, pair):
    """Raises an error unless these are the parts of a claim about a sure pair."""
    check_question(question)
    check_nodes(nodes)
    check_kept(lot, nodes, kept)
    check_pair(nodes, pair)


def check_open(lot, question, nodes, kept, pair):
    """Raises an error unless these are the parts of a claim about a pair that is not sure."""
    check_sure(lot, question, nodes, kept, pair)
    made(lot, nodes, kept)


def check_two(lot, other):
    """Raises an error unless these are the parts of a claim about two lots."""
    check_lot(other)


def check_endless(lot, letters):
    """Raises an error unless these are the parts of a claim about endlessly many strings."""
    check_letters(letters)
    check_short_words(lot)


def check_turned(lot, signed):
    """Raises an error unless these are the parts of a claim about a signed word."""
    check_signed(signed)


def paper_of_settled(lot, question):
    """A plan; None without any."""
    return plan(lot, question)


def paper_of_cut(lot, question):
    """A cut; None without any."""
    return cut(lot, question)


def paper_of_parted(lot, question, telling):
    """A parting in the telling: twins are one in each; None without any."""
    return None if is_settled(lot, question) else twins(lot, question)


def paper_of_grows(lot, question):
    """A chain; None without any."""
    return chain(lot, question)


def paper_of_shrinks(lot, question):
    """A shrinking; None without any."""
    return shrinking(lot, question)


def paper_of_backs(lot, question, number):
    """Ranks for the number; None without any."""
    if is_settled(lot, question):
        told = ranks(lot, question)
        return told if told[-1] >= number else None
    # No bridge leads from the places joined to place 0 to others, so that these may have any rank.
    joined = joined_to(lot, question, 0)
    return [0 if place in joined else number for place in range(len(question) + 1)]


def paper_of_bought(lot, prices, questions, number):
    """A choice with a price of at most the number; None without any."""
    told = cheapest(lot, prices, questions)
    return told if told is not None and price_of(prices, told) <= number else None


def price_of(prices, choice):
    """The price of a choice."""
    return sum([prices[word] for word in choice])


def paper_of_dear(lot, prices, questions, number):
    """A tree for the number; None without any."""
    return tree(lot, prices, questions, number)


def paper_of_sure(lot, question, nodes, kept, pair):
    """A sure chain of the pair; None without any."""
    return chain_of(lot, question, nodes, kept, pair)


def paper_of_open(lot, question, nodes, kept, pair):
    """A Graph with all kept pairs and without this one of the question; None without any."""
    if chain_of(lot, question, nodes, kept, pair) is not None:
        return None
    return made(lot, nodes, kept)


def paper_of_covers(lot, other):
    """A dict from the words of the other lot to plans of them; None if one has none."""
    return {word: plan(lot, word) for word in other} if covers(lot, other) else None


def paper_of_lacks(lot, other):
    """A tuple of a word of the other lot and a cut of it; None without any."""
    for word in other:
        if not is_settled(lot, word):
            return word, cut(lot, word)
    return None


def paper_of_endless(lot, letters):
    """A family; None without any."""
    return family(lot, letters)


def paper_of_turned(lot, signed):
    """Folds; None if they do not show it."""
    return folds(lot, signed) if does_settle_turn(lot, signed) else None


def paper_of_unturned(lot, signed):
    """Turn twins; None without any."""
    return None if does_settle_turn(lot, signed) else turn_twins(lot, signed)


def fits_settled(lot, question, value):
    """Whether any value is a plan."""
    return is_plan(lot, question, value)


def fits_cut(lot, question, value):
    """Whether any value is a cut."""
    return is_cut(lot, question, value)


def fits_parted(lot, question, telling, value):
    """Whether any value is a parting in the telling."""
    return is_parting(lot, question, value, telling)


def fits_grows(lot, question, value):
    """Whether any value is a chain."""
    return is_chain(lot, question, value)


def fits_shrinks(lot, question, value):
    """Whether any value is a shrinking."""
    return is_shrinking(lot, question, value)


def fits_backs(lot, question, number, value):
    """Whether any value is ranks for the number."""
    return are_ranks(lot, question, number, value)


def fits_bought(lot, prices, questions, number, value):
    """Whether any value is a choice with a price of at most the number."""
    return is_choice(lot, prices, questions, value) and price_of(prices, value) <= number


def fits_dear(lot, prices, questions, number, value):
    """Whether any value is a tree for the number."""
    return is_tree(lot, prices, questions, number, value)


def fits_sure(lot, question, nodes, kept, pair, value):
    """Whether any value is a sure chain of the pair."""
    return is_chain_of(lot, question, nodes, kept, pair, value)


def fits_open(lot, question, nodes, kept, pair, value):
    """Whether any value is a Graph in which each word has its kept pairs, and the question not this one."""
    if not isinstance(value, Graph) or value.nodes < nodes:
        return False
    return all([has_pairs(value, word, kept[word]) for word in lot]) and not has_pairs(value, question, [pair])


def has_pairs(graph, word, relation):
    """Whether in the graph the word has all these pairs."""
    known = {pair: True for pair in pairs(graph, word)}
    return all([pair in known for pair in relation])


def fits_covers(lot, other, value):
    """Whether any value is a dict from the words of the other lot to plans of them."""
    return has_words(other, value) and all([is_plan(lot, word, value[word]) for word in other])


def fits_lacks(lot, other, value):
    """Whether any value is a tuple of a word of the other lot and a cut of it."""
    if not isinstance(value, tuple) or len(value) != 2:
        return False
    word, places = value
    return word in other and is_cut(lot, word, places)


def fits_endless(lot, letters, value):
    """Whether any value is a family."""
    return is_family(lot, letters, value)


def fits_turned(lot, signed, value):
    """Whether any value is folds."""
    return are_folds(lot, signed, value)


def fits_unturned(lot, signed, value):
    """Whether any value is turn twins."""
    return are_turn_twins(lot, signed, value)


# How many parts stand behind the word of a claim, the first of them a Lot, and what is asked of them.
SIZES = {
    "settled": 2, "cut": 2, "parted": 3, "grows": 2, "shrinks": 2, "backs": 3, "bought": 4, "dear": 4, "sure": 5,
    "open": 5, "covers": 2, "lacks": 2, "endless": 2, "turned": 2, "unturned": 2,
}
CHECKS = {
    "settled": check_asked, "cut": check_asked, "parted": check_parted, "grows": check_asked, "shrinks": check_asked,
    "backs": check_backs, "bought": check_priced, "dear": check_priced, "sure": check_sure, "open": check_open,
    "covers": check_two, "lacks": check_two, "endless": check_endless, "turned": check_turned,
    "unturned": check_turned,
}
PAPERS = {
    "settled": paper_of_settled, "cut": paper_of_cut, "parted": paper_of_parted, "grows": paper_of_grows,
    "shrinks": paper_of_shrinks, "backs": paper_of_backs, "bought": paper_of_bought, "dear": paper_of_dear,
    "sure": paper_of_sure, "open": paper_of_open, "covers": paper_of_covers, "lacks": paper_of_lacks,
    "endless": paper_of_endless, "turned": paper_of_turned, "unturned": paper_of_unturned,
}
FITS = {
    "settled": fits_settled, "cut": fits_cut, "parted": fits_parted, "grows": fits_grows, "shrinks": fits_shrinks,
    "backs": fits_backs, "bought": fits_bought, "dear": fits_dear, "sure": fits_sure, "open": fits_open,
    "covers": fits_covers, "lacks": fits_lacks, "endless": fits_endless, "turned": fits_turned,
    "unturned": fits_unturned,
}


def is_claim(value):
    """Whether any value is a claim."""
    if not isinstance(value, tuple) or len(value) == 0 or not isinstance(value[0], str) or value[0] not in SIZES:
        return False
    if len(value) != SIZES[value[0]] + 1 or not isinstance(value[1], Lot):
        return False
    check = CHECKS[value[0]]
    parts = value[1:]
    try:
        check(*parts)
    except (WalkError, LimitError):
        return False
    return True


def check_claim(claim):
    """Raises InvalidClaim unless this is a claim."""
    if not is_claim(claim):
        raise InvalidClaim(claim)


def is_true(claim):
    """Whether the claim is true: whether there is a paper of it."""
    return paper_of(claim) is not None


def paper_of(claim):
    """A paper of the claim; None if it is not true."""
    check_claim(claim)
    find = PAPERS[claim[0]]
    parts = claim[1:]
    return find(*parts)


def is_paper(claim, value):
    """Whether any value is a paper of the claim."""
    check_claim(claim)
    fits = FITS[claim[0]]
    parts = claim[1:]
    return fits(*parts, value)
