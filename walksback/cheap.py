"""How cheap the cheapest walks are, told from kept cost tables: step tables of a plan."""

from walksback.basics import is_list
from walksback.checks import check_node, check_question
from walksback.settled import chosen_plan
from walksback.tables import check_kept_tables, columns_of, greatest_rest, is_cost_table, is_wide, least_sum, nodes_of


def step_tables(lot, question, kept, plan=None):
    """The list of the step tables of the plan; of that of the fewest steps, where none is passed."""
    steps = checked_plan(lot, question, kept, plan)
    return tables_at_work(steps, kept, free_rows(nodes_of(kept)))


def told_cheap(lot, question, kept, plan=None):
    """The last one of the step tables."""
    steps = checked_plan(lot, question, kept, plan)
    return tables_at_work(steps, kept, free_rows(nodes_of(kept)))[-1]


def told_cheap_from(lot, question, kept, node, plan=None):
    """The row of the node in the last one of the step tables."""
    steps = checked_plan(lot, question, kept, plan)
    check_node(nodes_of(kept), node)
    return tables_at_work(steps, kept, [free_rows(nodes_of(kept))[node]])[-1][0]


def is_step_tables(lot, question, kept, value, plan=None):
    """Whether any value is the list of the step tables of the plan."""
    steps = checked_plan(lot, question, kept, plan)
    nodes = nodes_of(kept)
    if not is_list(value) or not all([is_wide(nodes, table) for table in value]):
        return False
    return [[list(row) for row in table] for table in value] == tables_at_work(steps, kept, free_rows(nodes))


def checked_plan(lot, question, kept, plan):
    """The plan that is passed, or that is told for None, behind the errors of all that is passed but a node."""
    check_question(question)
    check_kept_tables(lot, kept, is_cost_table)
    return chosen_plan(lot, question, plan)


def free_rows(nodes):
    """The rows of the table ahead of all steps: it costs nothing to stay where one is."""
    return [[0 if x == y else None for y in range(nodes)] for x in range(nodes)]


def tables_at_work(steps, kept, rows):
    """The list of the rows ahead of all steps, and of those behind each."""
    told = [rows]
    for step in steps:
        told.append(rows_behind(step, told[-1], kept[step[1]]))
    return told


def rows_behind(step, rows, table):
    """The rows behind a step, by those ahead of it and the kept cost table of its word."""
    if step[0] > step[2]:
        return [[greatest_rest(row, costs) for costs in table] for row in rows]
    columns = columns_of(len(table), table)
    return [[least_sum(row, column) for column in columns] for row in rows]
