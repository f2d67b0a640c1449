"""Machines: standings with a goal for each letter, of which some let the strings that lead to them."""

from walksback.basics import is_integer, is_list
from walksback.checks import check_count, check_letters
from walksback.errors import InvalidLetting, InvalidMachine, InvalidRows, InvalidWord, OtherLetters, TooMany

MOST_STANDINGS = 2000
MOST_STRING_LETTERS = 200
# For each operator: what two machines say of a string (whether they let it) if it is to be let.
LET_BY_BOTH = ((True, True),)
LET_BY_SOME = ((True, True), (True, False), (False, True))
LET_BY_FIRST_ALONE = ((True, False),)
LET_BY_JUST_ONE = ((True, False), (False, True))


class Machine:
    """Standings, numbered from 0, a goal for each of them and each letter, letting standings. It never changes."""

    def __init__(self, letters, rows, letting):
        check_letters(letters)
        check_rows(letters, rows)
        check_letting(len(rows), letting)
        if len(rows) > MOST_STANDINGS:
            raise TooMany("standings", MOST_STANDINGS)
        self._letters = letters
        self._rows = [list(row) for row in rows]
        self._letting = sorted(letting)

    def letters(self):
        """The string of the letters."""
        return self._letters

    def rows(self):
        """The list of the goals of each standing, by the letters."""
        return [list(row) for row in self._rows]

    def letting(self):
        """The sorted list of the letting standings."""
        return list(self._letting)

    def goes(self, string):
        """The standing to which the string leads."""
        if not is_string_over(self._letters, string):
            raise InvalidWord(string)
        return standing_behind(self, 0, string)

    def goal(self, standing, letter):
        """The goal of a standing and a letter."""
        return self._rows[standing][self._letters.find(letter)]

    def least(self):
        """The least Machine that lets the same strings."""
        return machine_of_kinds(self, kinds_of(self._rows, self._letting))

    def count(self, size):
        """How many strings of so many letters it lets."""
        check_count(size)
        check_string_letters(size)
        return ways(self, size)[size][0]

    def string_at(self, size, place):
        """The string at this place, from 0, of the sorted ones of so many letters that it lets; None without any."""
        check_count(size)
        check_count(place)
        check_string_letters(size)
        left = ways(self, size)
        if place >= left[size][0]:
            return None
        return string_of(self, left, size, place)

    def place_of(self, string):
        """The place of the string among the sorted ones of as many letters that it lets; None if it does not let it."""
        if not is_string_over(self._letters, string):
            raise InvalidWord(string)
        check_string_letters(len(string))
        if string not in self:
            return None
        left = ways(self, len(string))
        place = 0
        standing = 0
        for at, letter in enumerate(string):
            behind = left[len(string) - at - 1]
            lesser = [goal for other, goal in zip(self._letters, self._rows[standing]) if other < letter]
            place = place + sum([behind[goal] for goal in lesser])
            standing = self.goal(standing, letter)
        return place

    def first(self):
        """The least string that it lets; None without any."""
        return first_string(self, 0)

    def is_endless(self):
        """Whether it lets endlessly many strings."""
        return len(lasting(self)) > 0

    def __len__(self):
        return len(self._rows)

    def __contains__(self, x):
        return is_string_over(self._letters, x) and standing_behind(self, 0, x) in self._letting

    def __eq__(self, other):
        return (isinstance(other, Machine) and self._letters == other._letters
                and self._rows == other._rows and self._letting == other._letting)

    def __repr__(self):
        return f"Machine({self._letters!r}, {self._rows!r}, {self._letting!r})"

    def __invert__(self):
        lets = {standing: True for standing in self._letting}
        others = [standing for standing in range(len(self._rows)) if standing not in lets]
        return Machine(self._letters, self._rows, others).least()

    def __and__(self, other):
        check_machine(self, other)
        return machine_of_two(self, other, LET_BY_BOTH)

    def __or__(self, other):
        check_machine(self, other)
        return machine_of_two(self, other, LET_BY_SOME)

    def __sub__(self, other):
        check_machine(self, other)
        return machine_of_two(self, other, LET_BY_FIRST_ALONE)


def is_string_over(letters, value):
    """Whether any value is a string of some of the letters, perhaps empty."""
    return isinstance(value, str) and all([letter in letters for letter in value])


def is_standing(many, value):
    """Whether any value is one of so many standings."""
    return is_integer(value) and 0 <= value < many


def check_rows(letters, rows):
    """Raises InvalidRows unless these are the goals of standings which are all come to."""
    if not is_list(rows) or len(rows) == 0:
        raise InvalidRows(None)
    for position, row in enumerate(rows):
        if not is_list(row) or len(row) != len(letters) or not all([is_standing(len(rows), goal) for goal in row]):
            raise InvalidRows(position)
    met = in_turn(rows)
    if len(met) < len(rows):
        known = {standing: True for standing in met}
        raise InvalidRows(min([standing for standing in range(len(rows)) if standing not in known]))


def in_turn(rows):
    """The list of the standings as they are come to: 0, then the goals of each, by the letters."""
    met = {0: True}
    order = [0]
    at = 0
    while at < len(order):
        standing = order[at]
        for goal in rows[standing]:
            if goal not in met:
                met[goal] = True
                order.append(goal)
        at = at + 1
    return order


def check_letting(many, letting):
    """Raises InvalidLetting unless this is a list of unlike ones of so many standings."""
    if not is_list(letting) or not all([is_standing(many, standing) for standing in letting]):
        raise InvalidLetting(letting)
    if len(set(letting)) < len(letting):
        raise InvalidLetting(letting)


def check_string_letters(size):
    """Raises TooMany for strings of more letters than are counted."""
    if size > MOST_STRING_LETTERS:
        raise TooMany("letters", MOST_STRING_LETTERS)


def check_machine(one, value):
    """Raises InvalidMachine unless this is a Machine, OtherLetters unless it has the letters of the one."""
    if not isinstance(value, Machine):
        raise InvalidMachine(value)
    if one.letters() != value.letters():
        raise OtherLetters(one.letters(), value.letters())


def standing_behind(machine, standing, string):
    """The standing to which the string leads from a standing."""
    told = standing
    for letter in string:
        told = machine.goal(told, letter)
    return told


def kinds_of(rows, letting):
    """For each standing the number of its kind: of one kind are those from which the same strings are let."""
    lets = {standing: True for standing in letting}
    kinds = [1 if standing in lets else 0 for standing in range(len(rows))]
    members = {0: [standing for standing in range(len(rows)) if standing not in lets], 1: list(letting)}
    sources = sources_of(rows)
    # Who has a goal that moved to a kind of its own may be parted from its kind, and nobody else.
    moved = min([members[0], members[1]], key=len)
    while moved:
        marks = marks_of(rows, kinds, sources, moved)
        met = sorted(set([kinds[standing] for standing in marks]))
        moved = []
        for kind in met:
            parts = parts_of(members[kind], marks)
            members[kind] = parts[0]
            for part in parts[1:]:
                fresh = len(members)
                members[fresh] = part
                moved = moved + part
                for standing in part:
                    kinds[standing] = fresh
    return kinds


def sources_of(rows):
    """For each standing the list of those that have it as a goal, as often as they have."""
    told = [[] for _ in rows]
    for standing, row in enumerate(rows):
        for goal in row:
            told[goal] = told[goal] + [standing]
    return told


def marks_of(rows, kinds, sources, moved):
    """A dict from the standings with a goal among the moved ones to the kinds of their goals."""
    ahead = sorted(set([standing for goal in moved for standing in sources[goal]]))
    return {standing: tuple([kinds[goal] for goal in rows[standing]]) for standing in ahead}


def parts_of(members, marks):
    """The members parted by their marks, those without one together; the longest part first, which needs no move."""
    told = {standing: marks.get(standing, ()) for standing in members}
    known = sorted(set(list(told.values())))
    parts = [[standing for standing in members if told[standing] == mark] for mark in known]
    return sorted(parts, key=len, reverse=True)


def machine_of_kinds(machine, kinds):
    """The Machine whose standings are the kinds of standings of a machine, numbered as they are come to."""
    rows = machine.rows()
    numbers = {}
    chosen = []
    for standing in in_turn(rows):
        if kinds[standing] not in numbers:
            numbers[kinds[standing]] = len(chosen)
            chosen.append(standing)
    lets = {standing: True for standing in machine.letting()}
    goals = [[numbers[kinds[goal]] for goal in rows[standing]] for standing in chosen]
    return Machine(machine.letters(), goals, [number for number, standing in enumerate(chosen) if standing in lets])


def machine_of_two(one, other, wanted):
    """The least Machine that lets the strings of which two machines say what is wanted."""
    first, second = one.rows(), other.rows()
    numbers = {(0, 0): 0}
    pairs = [(0, 0)]
    rows = []
    while len(rows) < len(pairs):
        x, y = pairs[len(rows)]
        goals = list(zip(first[x], second[y]))
        for pair in goals:
            if pair not in numbers:
                numbers[pair] = len(pairs)
                pairs.append(pair)
        if len(pairs) > MOST_STANDINGS:
            raise TooMany("standings", MOST_STANDINGS)
        rows.append([numbers[pair] for pair in goals])
    lets = {standing: True for standing in one.letting()}
    lets_too = {standing: True for standing in other.letting()}
    letting = [number for number, (x, y) in enumerate(pairs) if (x in lets, y in lets_too) in wanted]
    return Machine(one.letters(), rows, letting).least()


def ways(machine, size):
    """For each number of letters up to the size: for each standing how many strings of so many are let from it."""
    lets = {standing: True for standing in machine.letting()}
    told = [[1 if standing in lets else 0 for standing in range(len(machine))]]
    rows = machine.rows()
    for _ in range(size):
        behind = told[-1]
        told.append([sum([behind[goal] for goal in row]) for row in rows])
    return told


def string_of(machine, left, size, place):
    """The string at this place of the sorted ones of so many letters; left tells how many there are behind each."""
    rows = machine.rows()
    told = ""
    standing = 0
    ahead = place
    for rest in reversed(range(size)):
        for letter, goal in zip(machine.letters(), rows[standing]):
            if ahead < left[rest][goal]:
                told = told + letter
                standing = goal
                break
            ahead = ahead - left[rest][goal]
    return told


def least_strings(machine, begin):
    """A dict from the standings that are come to from one to the least strings that lead there, these in sequence."""
    rows = machine.rows()
    told = {begin: ""}
    order = [begin]
    at = 0
    while at < len(order):
        standing = order[at]
        for letter, goal in zip(machine.letters(), rows[standing]):
            if goal not in told:
                told[goal] = told[standing] + letter
                order.append(goal)
        at = at + 1
    return told


def first_string(machine, begin):
    """The least string that leads from a standing to a letting one; None without any."""
    lets = {standing: True for standing in machine.letting()}
    strings = least_strings(machine, begin)
    found = [standing for standing in strings if standing in lets]
    return strings[found[0]] if found else None


def leading(machine):
    """A dict from the standings from which some string leads to a letting one to True."""
    sources = sources_of(machine.rows())
    met = {standing: True for standing in machine.letting()}
    waiting = machine.letting()
    while waiting:
        last = waiting.pop()
        for standing in sources[last]:
            if standing not in met:
                met[standing] = True
                waiting.append(standing)
    return met


def lasting(machine):
    """The sorted list of the standings from which endlessly many strings lead to letting ones."""
    rows = machine.rows()
    useful = leading(machine)
    goals_left = {standing: len([goal for goal in rows[standing] if goal in useful]) for standing in useful}
    sources = sources_of(rows)
    waiting = [standing for standing in goals_left if goals_left[standing] == 0]
    ended = {standing: True for standing in waiting}
    while waiting:
        last = waiting.pop()
        for standing in sources[last]:
            if standing in useful:
                goals_left[standing] = goals_left[standing] - 1
                if goals_left[standing] == 0:
                    ended[standing] = True
                    waiting.append(standing)
    return sorted([standing for standing in useful if standing not in ended])
