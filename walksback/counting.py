"""How many walks there are, told from kept matrices: count papers, freedoms, and the last matrix of all papers."""

from walksback.basics import is_count, is_list
from walksback.checks import check_node, check_question
from walksback.errors import NoMatrices, TooMany
from walksback.fractions import Ratio, echelon, is_fraction, solved
from walksback.settled import chosen_plan
from walksback.tables import check_kept_tables, is_matrix, is_square, nodes_of

MOST_NODES = 8


def count_paper(lot, question, kept, plan=None):
    """A count paper of the plan; of that of the fewest steps, where none is passed."""
    steps = checked_plan(lot, question, kept, plan)
    check_size(kept)
    rows = unit_rows(nodes_of(kept))
    spaces = spaces_behind(steps, kept)
    points = points_behind(steps, kept, spaces, rows)
    matrices = matrices_ahead(steps, kept, spaces, points)
    return [[[number.pair() for number in row] for row in matrix] for matrix in matrices]


def is_count_paper(lot, question, kept, value, plan=None):
    """Whether any value is a count paper of the plan."""
    steps = checked_plan(lot, question, kept, plan)
    check_size(kept)
    nodes = nodes_of(kept)
    if not is_list(value) or len(value) != len(steps) + 1:
        return False
    if not all([is_fraction_matrix(nodes, matrix) for matrix in value]):
        return False
    matrices = [[[Ratio.of(number) for number in row] for row in matrix] for matrix in value]
    if matrices[0] != unit_rows(nodes):
        return False
    return all([fits(step, kept, matrices[at], matrices[at + 1]) for at, step in enumerate(steps)])


def freedom(lot, question, kept, plan=None):
    """The list of the freedoms: ahead of all steps of the plan, and behind each."""
    steps = checked_plan(lot, question, kept, plan)
    check_size(kept)
    return [len(space) for space in spaces_behind(steps, kept)]


def told_many(lot, question, kept, plan=None):
    """The last matrix of all count papers of the plan."""
    steps = checked_plan(lot, question, kept, plan)
    check_size(kept)
    return last_counts(steps, kept, unit_rows(nodes_of(kept)))


def told_many_from(lot, question, kept, node, plan=None):
    """The row of the node in the last matrix, the node's rows of the papers being looked at alone."""
    steps = checked_plan(lot, question, kept, plan)
    check_node(nodes_of(kept), node)
    check_size(kept)
    return last_counts(steps, kept, [unit_rows(nodes_of(kept))[node]])[0]


def checked_plan(lot, question, kept, plan):
    """The plan that is passed, or that is told for None, behind the errors of all that is passed but a node."""
    check_question(question)
    check_kept_tables(lot, kept, is_matrix)
    return chosen_plan(lot, question, plan)


def check_size(kept):
    """Raises TooMany if the kept matrices have more nodes than are counted with."""
    if nodes_of(kept) > MOST_NODES:
        raise TooMany("nodes", MOST_NODES)


def is_fraction_matrix(nodes, value):
    """Whether any value is a matrix of FRACTIONS of so many nodes."""
    return is_square(nodes, value) and all([is_fraction(number) for row in value for number in row])


def fits(step, kept, ahead, behind):
    """Whether a count paper may have these matrices ahead of the step and behind it."""
    if step[0] < step[2]:
        return behind == [times(row, kept[step[1]]) for row in ahead]
    return ahead == [times(row, kept[step[1]]) for row in behind]


def unit_rows(nodes):
    """The rows of ONE."""
    return [[Ratio(1) if x == y else Ratio(0) for y in range(nodes)] for x in range(nodes)]


def times(row, matrix):
    """A row times the matrix, as Ratios."""
    return [sum([number * other[y] for number, other in zip(row, matrix)], start=Ratio(0)) for y in range(len(row))]


def spaces_behind(steps, kept):
    """For ahead of all steps, and behind each, integer rows that span the space of rows that are free there."""
    told = [[]]
    for step in steps:
        told.append(space_behind(step, kept[step[1]], told[-1]))
    return told


def space_behind(step, matrix, space):
    """Integer rows, as few as may be, that span the space behind a step, by those of the space ahead of it."""
    nodes = len(matrix)
    if step[0] < step[2]:
        leading = echelon(products(space, matrix), nodes)[0]
        return [row[:nodes] for _, row in leading]
    # What is left of the mixed rows tells how often to take those of the matrix for a row that comes into the space.
    left = echelon([*matrix, *space], nodes)[1]
    return [row[nodes:2 * nodes] for row in left]


def products(rows, matrix):
    """Integer rows, each times the matrix."""
    return [[sum([number * other[y] for number, other in zip(row, matrix)]) for y in range(len(matrix))]
            for row in rows]


def points_behind(steps, kept, spaces, rows):
    """
    For ahead of all steps and behind each, for each of the first rows, one row that papers may have there.
    Together with the space there it tells all of them. NoMatrices if there is none.
    """
    told = [rows]
    for at, step in enumerate(steps):
        told.append(points_behind_step(step, kept[step[1]], spaces[at], told[-1]))
    return told


def points_behind_step(step, matrix, space, points):
    """The rows behind a step, by those ahead of it."""
    if step[0] < step[2]:
        return [times(point, matrix) for point in points]
    mixed = echelon([*matrix, *space], len(matrix))
    return [needed_rows(mixed, point)[:len(matrix)] for point in points]


def needed_rows(mixed, wanted):
    """How often each row, by the echelon of all, is taken to come to what is wanted: NoMatrices if it cannot be."""
    told = solved(mixed, wanted)
    if told is None:
        raise NoMatrices()
    return told


def matrices_ahead(steps, kept, spaces, points):
    """The matrices of a count paper: from its last one on, each ahead of a step is chosen by the one behind it."""
    told = [points[-1]]
    for at, step in list(enumerate(steps))[::-1]:
        told.append(rows_ahead(step, kept[step[1]], spaces[at], points[at], told[-1]))
    return told[::-1]


def rows_ahead(step, matrix, space, points, behind):
    """Rows ahead of a step that go with those behind it, by one that may stand there and the space of the others."""
    if step[0] > step[2]:
        return [times(row, matrix) for row in behind]
    mixed = echelon(products(space, matrix), len(matrix))
    return [row_ahead(mixed, matrix, space, point, row) for point, row in zip(points, behind)]


def row_ahead(mixed, matrix, space, point, behind):
    """The row ahead of a step forth that, times the matrix, is the one behind: the point and rows of the space."""
    wanted = [number - known for number, known in zip(behind, times(point, matrix))]
    row = point
    for share, free in zip(needed_rows(mixed, wanted), space):
        row = [number + share * other for number, other in zip(row, free)]
    return row


def last_counts(steps, kept, rows):
    """The rows behind all steps, by those ahead of them: NoMatrices unless there is just one choice, of COUNTS."""
    spaces = spaces_behind(steps, kept)
    last = points_behind(steps, kept, spaces, rows)[-1]
    if spaces[-1]:
        raise NoMatrices()
    if not all([number.below == 1 and is_count(number.above) for row in last for number in row]):
        raise NoMatrices()
    return [[number.above for number in row] for row in last]
