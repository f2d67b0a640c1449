"""Whether a lot settles a question: by a plan, or else not, by a cut."""

from walksback.basics import is_integer, is_list, is_rising
from walksback.checks import check_place, check_question, is_place
from walksback.errors import InvalidPlan, NotSettled
from walksback.places import are_joined, bridges, classes, crossing, goals_both, joined_to


def is_settled(lot, question):
    """Whether the lot settles the question: whether its first and last place are joined."""
    check_question(question)
    return are_joined(lot, question, 0, len(question))


def all_steps(lot, question):
    """The sorted list of the steps by all bridges, forth and back."""
    found = bridges(lot, question)
    forth = [(begin, word, end) for begin, end, word in found]
    back = [(end, word, begin) for begin, end, word in found]
    return sorted(forth + back)


def check_settled(lot, question):
    """Raises NotSettled with the question unless the lot settles it."""
    if not is_settled(lot, question):
        raise NotSettled(question)


def steps_at(lot, question, place):
    """The sorted list of the steps from the place."""
    check_question(question)
    check_place(question, place)
    return [step for step in all_steps(lot, question) if step[0] == place]


def distances(lot, question):
    """For each place the fewest steps that lead there from place 0; None without any."""
    check_question(question)
    return distances_from(lot, question, 0)


def distances_from(lot, question, begin):
    """For each place the fewest steps that lead there from a place; None without any."""
    goals = goals_both(lot, question)
    told = [None] * (len(question) + 1)
    told[begin] = 0
    reached = [begin]
    steps = 0
    while reached:
        reached = sorted(set([goal for place in reached for goal in goals[place] if told[goal] is None]))
        steps = steps + 1
        for place in reached:
            told[place] = steps
    return told


def plan(lot, question):
    """The least one of the plans of the fewest steps; None if there is none."""
    check_question(question)
    # Each bridge is gone in both directions, so this is how far it is from each place to the last one.
    left = distances_from(lot, question, len(question))
    if left[0] is None:
        return None
    steps = all_steps(lot, question)
    told = []
    place = 0
    while place != len(question):
        told.append(min([step for step in steps if step[0] == place and left[step[2]] == left[place] - 1]))
        place = told[-1][2]
    return told


def is_plan(lot, question, value):
    """Whether any value is a plan of the question by the lot."""
    check_question(question)
    if not is_list(value):
        return False
    steps = {step: True for step in all_steps(lot, question)}
    place = 0
    for step in value:
        if not is_like_step(step) or step not in steps or step[0] != place:
            return False
        place = step[2]
    return place == len(question)


def is_like_step(value):
    """Whether any value is a tuple of an INTEGER, a string and an INTEGER."""
    if not isinstance(value, tuple) or len(value) != 3:
        return False
    return is_integer(value[0]) and isinstance(value[1], str) and is_integer(value[2])


def check_plan(lot, question, value):
    """Raises InvalidPlan unless this is a plan of the question by the lot."""
    if not is_plan(lot, question, value):
        raise InvalidPlan(value)


def chosen_plan(lot, question, value):
    """A plan that is passed, InvalidPlan; for None the one that is told, NotSettled with the question without any."""
    if value is not None:
        check_plan(lot, question, value)
        return value
    check_settled(lot, question)
    return plan(lot, question)


def cut(lot, question):
    """The cut of the fewest places: those joined to place 0; None if there is none."""
    if is_settled(lot, question):
        return None
    return joined_to(lot, question, 0)


def greatest_cut(lot, question):
    """The cut of the most places: all but those joined to the last one; None if there is none."""
    if is_settled(lot, question):
        return None
    behind = joined_to(lot, question, len(question))
    return [place for place in range(len(question) + 1) if place not in behind]


def cut_count(lot, question):
    """How many cuts there are: each class but those of the first and the last place is in one or is not."""
    if is_settled(lot, question):
        return 0
    return 1 << (len(classes(lot, question)) - 2)


def is_cut(lot, question, value):
    """Whether any value is a cut of the question by the lot."""
    check_question(question)
    if not is_list(value) or not all([is_place(question, place) for place in value]):
        return False
    if not is_rising(value) or 0 not in value or len(question) in value:
        return False
    return crossing(lot, question, value) == []
