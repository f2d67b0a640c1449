"""All words that a lot settles, as one machine; the words that it does not settle."""

from walksback.checks import check_count, check_letters
from walksback.errors import TooMany
from walksback.machines import (
    Machine, check_string_letters, first_string, is_string_over, lasting, leading, least_strings, standing_behind,
)

MOST_WORD_LETTERS = 4


def machine_of(lot, letters):
    """The least Machine that lets just the strings over the letters that the lot settles."""
    check_letters(letters)
    check_short_words(lot)
    words = [word for word in lot if is_string_over(letters, word)]
    # Ahead of all letters nothing was read, and the only place is joined with itself.
    pasts = [("", (0,))]
    numbers = {pasts[0]: 0}
    rows = []
    while len(rows) < len(pasts):
        past = pasts[len(rows)]
        goals = [past_behind(words, past, letter) for letter in letters]
        for goal in goals:
            if goal not in numbers:
                numbers[goal] = len(pasts)
                pasts.append(goal)
        rows.append([numbers[goal] for goal in goals])
    return Machine(letters, rows, [numbers[past] for past in pasts if past[1][-1] == 0]).least()


def check_short_words(lot):
    """Raises TooMany if a word of the lot has more letters than a machine is made for."""
    if lot.longest() > MOST_WORD_LETTERS:
        raise TooMany("word", MOST_WORD_LETTERS)


def past_behind(words, past, letter):
    """
    What is to be known behind one more letter: the last letters, and marks of the last places, alike for joined ones.
    The mark 0 stands for the places that are joined with place 0.
    """
    read = past[0] + letter
    marks = [*past[1], max(past[1]) + 1]
    for word in words:
        if read.endswith(word):
            joined = (marks[-1], marks[-1 - len(word)])
            marks = [min(joined) if mark in joined else mark for mark in marks]
    size = max([len(word) for word in words], default=1)
    kept = read[1 - size:] if size > 1 else ""
    return kept, marks_in_turn(marks[-size:])


def marks_in_turn(marks):
    """The marks told such that alike pasts have the same ones: 0 stays, the others are numbered as they are met."""
    numbers = {0: 0}
    for mark in marks:
        if mark not in numbers:
            numbers[mark] = len(numbers)
    return tuple([numbers[mark] for mark in marks])


def how_many(lot, letters, size):
    """How many strings of so many letters the lot settles."""
    check_letters(letters)
    check_count(size)
    check_string_letters(size)
    return machine_of(lot, letters).count(size)


def first_unsettled(lot, letters):
    """The least word over the letters that the lot does not settle; None if it settles all."""
    return unsettled(lot, letters).first()


def unsettled(lot, letters):
    """The least Machine that lets just the strings that the lot does not settle, which are words."""
    return ~machine_of(lot, letters)


def last_unsettled(lot, letters):
    """How many letters the longest strings have that the lot does not settle; 0 without any, None without an end."""
    machine = unsettled(lot, letters)
    if machine.is_endless():
        return None
    rows = machine.rows()
    useful = leading(machine)
    size = 0
    reached = goals_among(rows, [0], useful)
    while reached:
        size = size + 1
        reached = goals_among(rows, reached, useful)
    return size


def goals_among(rows, standings, some):
    """The sorted list of the goals of the standings that are among some."""
    return sorted(set([goal for standing in standings for goal in rows[standing] if goal in some]))


def family(lot, letters):
    """A tuple (begin, lap, end) of strings such that the lot settles none with any number of laps; None without any."""
    machine = unsettled(lot, letters)
    steps = {standing: True for standing in lasting(machine)}
    if not steps:
        return None
    begin, lap = lap_among(machine, steps)
    return begin, lap, first_string(machine, machine.goes(begin))


def lap_among(machine, some):
    """A string that leads to a standing, and one that leads from there to it again, through some with goals in some."""
    standing = min(some)
    strings = {}
    read = ""
    while standing not in strings:
        strings[standing] = read
        letter = [sign for sign in machine.letters() if machine.goal(standing, sign) in some][0]
        read = read + letter
        standing = machine.goal(standing, letter)
    return least_strings(machine, 0)[standing], read[len(strings[standing]):]


def is_family(lot, letters, value):
    """Whether any value is a family of the lot over the letters."""
    machine = machine_of(lot, letters)
    if not isinstance(value, tuple) or len(value) != 3 or not all([is_string_over(letters, part) for part in value]):
        return False
    begin, lap, end = value
    if lap == "":
        return False
    standing = machine.goes(begin)
    met = {}
    # Behind as many laps as bring back to a standing, nothing new is met.
    while standing not in met:
        met[standing] = standing_behind(machine, standing, end)
        standing = standing_behind(machine, standing, lap)
    return not any([goal in machine.letting() for goal in met.values()])
