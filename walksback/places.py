"""The places of a question, the bridges between them, and how these join the places."""

from walksback.basics import is_list, is_word
from walksback.checks import check_place, check_question, is_place
from walksback.errors import InvalidPlaces, InvalidWord


def found_at(question, word):
    """The sorted list of the places of the question at which the word stands."""
    check_question(question)
    if not is_word(word):
        raise InvalidWord(word)
    return [place for place in range(len(question)) if question[place:place + len(word)] == word]


def bridges(lot, question):
    """The sorted list of the bridges of the question by the lot."""
    check_question(question)
    return sorted([(place, place + len(word), word) for word in lot for place in found_at(question, word)])


def bridges_at(lot, question, place):
    """The sorted list of the bridges of which one end is this place."""
    check_question(question)
    check_place(question, place)
    return [bridge for bridge in bridges(lot, question) if place in bridge[:2]]


def goals_forth(lot, question):
    """For each place the list of the places to which bridges lead from it forth."""
    goals = {place: [] for place in range(len(question) + 1)}
    for begin, end, _ in bridges(lot, question):
        goals[begin].append(end)
    return goals


def goals_back(lot, question):
    """For each place the list of the places to which bridges lead from it back."""
    goals = {place: [] for place in range(len(question) + 1)}
    for begin, end, _ in bridges(lot, question):
        goals[end].append(begin)
    return goals


def goals_both(lot, question):
    """For each place the list of the places to which bridges lead from it, forth or back."""
    forth = goals_forth(lot, question)
    back = goals_back(lot, question)
    return {place: forth[place] + back[place] for place in forth}


def come_to(goals, begin):
    """The sorted list of the places that are come to from a place, by the goals of each place."""
    met = {begin: True}
    waiting = [begin]
    while waiting:
        place = waiting.pop()
        for goal in goals[place]:
            if goal not in met:
                met[goal] = True
                waiting.append(goal)
    return sorted(met)


def classes(lot, question):
    """The sorted list of the classes: all places, those that are joined together."""
    check_question(question)
    goals = goals_both(lot, question)
    told = []
    met = {}
    for place in range(len(question) + 1):
        if place not in met:
            told.append(come_to(goals, place))
            met.update({joined: True for joined in told[-1]})
    return told


def joined_to(lot, question, place):
    """The class of the place."""
    check_question(question)
    check_place(question, place)
    return come_to(goals_both(lot, question), place)


def are_joined(lot, question, place, second):
    """Whether some bridges lead from the one place to the other, each gone forth or back."""
    check_question(question)
    check_place(question, place)
    check_place(question, second)
    return second in joined_to(lot, question, place)


def forth_from(lot, question, place):
    """The sorted list of the places that are come to forth from the place."""
    check_question(question)
    check_place(question, place)
    return come_to(goals_forth(lot, question), place)


def forth_to(lot, question, place):
    """The sorted list of the places from which the place is come to forth."""
    check_question(question)
    check_place(question, place)
    return come_to(goals_back(lot, question), place)


def crossing(lot, question, places):
    """The sorted list of the bridges of which just one end is among the places."""
    check_question(question)
    check_places(question, places)
    return [bridge for bridge in bridges(lot, question) if (bridge[0] in places) != (bridge[1] in places)]


def check_places(question, places):
    """Raises InvalidPlaces unless this is a list of unlike places of the question."""
    if not is_list(places):
        raise InvalidPlaces(None)
    for position, place in enumerate(places):
        if not is_place(question, place) or place in places[:position]:
            raise InvalidPlaces(position)
