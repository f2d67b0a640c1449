"""Plans of a lot for a question: how many, at which fare, with how few steps back, and ranks that show it."""

from walksback.basics import is_count, is_list
from walksback.checks import check_count, check_question
from walksback.errors import InvalidNumber, InvalidPrices, TooMany
from walksback.places import bridges
from walksback.settled import all_steps, check_settled, distances_from

MOST_STEPS = 60
MOST_FARE = 1000


def how_many(lot, question, steps):
    """How many plans have just so many steps."""
    check_question(question)
    check_count(steps)
    if steps > MOST_STEPS:
        raise TooMany("steps", MOST_STEPS)
    known = all_steps(lot, question)
    ways = [1] + [0] * len(question)
    for _ in range(steps):
        ways = ways_on(known, ways)
    return ways[-1]


def ways_on(steps, ways):
    """For each place how many lists of steps lead there, by how many lists of one step less lead to each place."""
    told = [0] * len(ways)
    for place, _, goal in steps:
        told[goal] = told[goal] + ways[place]
    return told


def plan_at(lot, question, number):
    """The plan at this place, counted from 0, of all plans of the least length, sorted."""
    check_question(question)
    check_count(number)
    check_settled(lot, question)
    left = distances_from(lot, question, len(question))
    # Only steps that come nearer to the last place are in a plan of the least length.
    steps = [step for step in all_steps(lot, question)
             if left[step[0]] is not None and left[step[2]] == left[step[0]] - 1]
    many = ways_to_last(steps, left)
    if number >= many[0]:
        raise InvalidNumber(number)
    return steps_to_last(steps, many, number)


def ways_to_last(steps, left):
    """For each place how many lists of these steps lead from it to the last one; each step leaves one less to go."""
    many = [0] * len(left)
    many[-1] = 1
    for distance in range(1, len(left)):
        for place, _, goal in steps:
            if left[place] == distance:
                many[place] = many[place] + many[goal]
    return many


def steps_to_last(steps, many, number):
    """The list of steps at this place of all sorted ones that lead from place 0 to the last one."""
    ahead = number
    told = []
    place = 0
    while place != len(many) - 1:
        for step in [known for known in steps if known[0] == place]:
            if ahead < many[step[2]]:
                told.append(step)
                place = step[2]
                break
            ahead = ahead - many[step[2]]
    return told


def cheapest_plan(lot, question, fares):
    """Of the plans of the least fare the shortest, of these the least one."""
    check_question(question)
    if not are_fares(fares):
        raise InvalidPrices(fares)
    check_settled(lot, question)
    forth, back = fares
    # A way to the last place, gone the other way round, comes from there, with forth and back exchanged.
    left = least_fares(lot, question, len(question), (back, forth))
    steps = all_steps(lot, question)
    told = []
    place = 0
    while place != len(question):
        nearer = [step for step in steps if step[0] == place and with_step(left[step[2]], step, fares) == left[place]]
        told.append(min(nearer))
        place = told[-1][2]
    return told


def least_fares(lot, question, begin, fares):
    """For each place the least tuple (fare, steps) of the ways to it from a place; None without any."""
    steps = all_steps(lot, question)
    told = [None] * (len(question) + 1)
    told[begin] = (0, 0)
    # A least way comes to no place twice, so it has no more steps than the question has letters.
    for _ in question:
        for step in steps:
            place, _, goal = step
            if told[place] is not None:
                way = with_step(told[place], step, fares)
                if told[goal] is None or way < told[goal]:
                    told[goal] = way
    return told


def with_step(way, step, fares):
    """The tuple (fare, steps) of a way with this step more."""
    fare = fares[0] if step[0] < step[2] else fares[1]
    return way[0] + fare, way[1] + 1


def fewest_backs(lot, question):
    """How many steps back the plans with the fewest of them have."""
    check_question(question)
    check_settled(lot, question)
    return least_fares(lot, question, 0, (0, 1))[-1][0]


def ranks(lot, question):
    """For each place the fewest steps back on a way to it from 0; the fewest of a plan if it is not joined to 0."""
    fewest = fewest_backs(lot, question)
    ways = least_fares(lot, question, 0, (0, 1))
    return [fewest if way is None else way[0] for way in ways]


def are_ranks(lot, question, number, value):
    """Whether any value is ranks for the number."""
    check_question(question)
    check_count(number)
    if not is_list(value) or len(value) != len(question) + 1 or not all([is_count(rank) for rank in value]):
        return False
    if value[0] != 0 or value[-1] < number:
        return False
    return all([value[end] <= value[begin] <= value[end] + 1 for begin, end, _ in bridges(lot, question)])


def are_fares(value):
    """Whether any value is a tuple of the fare of a step forth and the fare of a step back."""
    if not isinstance(value, tuple) or len(value) != 2:
        return False
    return all([is_count(fare) and fare <= MOST_FARE for fare in value])
