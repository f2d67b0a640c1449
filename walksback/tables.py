"""Relations, matrices, cost tables and wide tables: what is one, products, and what stands back over others."""

from walksback.basics import is_count, is_integer, is_list, is_rising
from walksback.checks import LIMIT_OF_NODES, check_nodes, check_telling, is_node
from walksback.errors import InvalidKept, InvalidMatrix, InvalidPair, InvalidRelation, InvalidTable


def is_pair(nodes, value):
    """Whether any value is a tuple of two of so many nodes."""
    return isinstance(value, tuple) and len(value) == 2 and all([is_node(nodes, node) for node in value])


def is_relation(nodes, value):
    """Whether any value is a sorted list of unlike pairs of so many nodes."""
    check_nodes(nodes)
    return is_list(value) and all([is_pair(nodes, pair) for pair in value]) and is_rising(value)


def is_square(nodes, value):
    """Whether any value is a list that has for each of so many nodes a list of as many elements."""
    if not is_list(value) or len(value) != nodes:
        return False
    return all([is_list(row) and len(row) == nodes for row in value])


def is_matrix(nodes, value):
    """Whether any value is a matrix of COUNTS of so many nodes."""
    check_nodes(nodes)
    return is_square(nodes, value) and all([is_count(number) for row in value for number in row])


def is_cost_table(nodes, value):
    """Whether any value is a cost table, of COUNTS and None, of so many nodes."""
    check_nodes(nodes)
    return is_square(nodes, value) and all([cost is None or is_count(cost) for row in value for cost in row])


def is_wide(nodes, value):
    """Whether any value is a wide table, of INTEGERS, None and "below", of so many nodes."""
    check_nodes(nodes)
    return is_square(nodes, value) and all([is_wide_number(number) for row in value for number in row])


def is_wide_number(value):
    """Whether any value may stand in a wide table."""
    return value is None or is_integer(value) or (isinstance(value, str) and value == "below")


def check_relation(nodes, value):
    """Raises InvalidNodes, or InvalidRelation unless this is a relation of so many nodes."""
    if not is_relation(nodes, value):
        raise InvalidRelation(value)


def check_matrix(nodes, value):
    """Raises InvalidNodes, or InvalidMatrix unless this is a matrix of so many nodes."""
    if not is_matrix(nodes, value):
        raise InvalidMatrix(value)


def check_cost_table(nodes, value):
    """Raises InvalidNodes, or InvalidTable unless this is a cost table of so many nodes."""
    if not is_cost_table(nodes, value):
        raise InvalidTable(value)


def check_wide(nodes, value):
    """Raises InvalidNodes, or InvalidTable unless this is a wide table of so many nodes."""
    if not is_wide(nodes, value):
        raise InvalidTable(value)


def check_pair(nodes, value):
    """Raises InvalidPair unless this is a tuple of two of so many nodes."""
    if not is_pair(nodes, value):
        raise InvalidPair(value)


def has_words(lot, value):
    """Whether any value is a dict from just the words of the lot."""
    return isinstance(value, dict) and len(value) == len(lot) and all([word in lot for word in value])


def check_kept(lot, nodes, kept):
    """Raises InvalidKept unless this is a dict from just the words of the lot to relations of so many nodes."""
    if not has_words(lot, kept) or not all([is_relation(nodes, kept[word]) for word in kept]):
        raise InvalidKept(kept)


def check_kept_tables(lot, kept, is_table):
    """Raises InvalidKept unless this is a dict from just the words of the lot to tables of equally many nodes."""
    if not has_words(lot, kept):
        raise InvalidKept(kept)
    nodes = nodes_of(kept)
    if len(kept) > 0 and not 1 <= nodes <= LIMIT_OF_NODES:
        raise InvalidKept(kept)
    if not all([is_table(nodes, kept[word]) for word in kept]):
        raise InvalidKept(kept)


def nodes_of(kept):
    """How many nodes the first one of kept tables has; 0 without any, and for what is no list."""
    sizes = [len(table) if is_list(table) else 0 for table in kept.values()]
    return sizes[0] if sizes else 0


def first_apart_of(one, other):
    """The least pair that just one of two relations has; None without any."""
    apart = sorted(set(one) ^ set(other))
    return apart[0] if apart else None


def row_masks(nodes, relation):
    """For each node x a number whose bit y is set for each pair (x, y): so whole rows are joined and compared."""
    masks = [0] * nodes
    for x, y in relation:
        masks[x] = masks[x] | (1 << y)
    return masks


def nodes_in(mask):
    """The rising list of the nodes whose bits are set in such a number."""
    return [node for node in range(mask.bit_length()) if (mask >> node) & 1 == 1]


def joined_rows(mask, rows):
    """The bits of the rows of all nodes of the mask together."""
    told = 0
    for node in nodes_in(mask):
        told = told | rows[node]
    return told


def relation_of(masks):
    """The relation whose rows these numbers are."""
    return [(x, y) for x in range(len(masks)) for y in range(len(masks)) if (masks[x] >> y) & 1 == 1]


def product(nodes, one, other):
    """The relation of the pairs that lead by a pair of the one to some node, and on by a pair of the other."""
    check_relation(nodes, one)
    check_relation(nodes, other)
    behind = row_masks(nodes, other)
    masks = [0] * nodes
    for x, z in one:
        masks[x] = masks[x] | behind[z]
    return relation_of(masks)


def back(nodes, one, over):
    """The relation one back over the other: the greatest one whose product with it is within one."""
    check_relation(nodes, one)
    check_relation(nodes, over)
    rows = row_masks(nodes, one)
    asked = row_masks(nodes, over)
    return [(x, w) for x in range(nodes) for w in range(nodes) if (rows[x] | asked[w]) == rows[x]]


def is_within(nodes, one, other):
    """Whether each pair of one relation is a pair of the other one."""
    check_relation(nodes, one)
    check_relation(nodes, other)
    known = {pair: True for pair in other}
    return all([pair in known for pair in one])


def columns_of(nodes, table):
    """For each of so many nodes the list of what stands there in the rows of the table."""
    return [[row[y] for row in table] for y in range(nodes)]


def count_product(nodes, one, other):
    """The product of two matrices."""
    check_matrix(nodes, one)
    check_matrix(nodes, other)
    columns = columns_of(nodes, other)
    return [[sum_of_products(row, column) for column in columns] for row in one]


def sum_of_products(row, column):
    """The sum of the products of the numbers of both, place by place."""
    return sum([first * second for first, second in zip(row, column)])


def cost_product(nodes, one, other):
    """The product of a wide table and a cost table."""
    check_wide(nodes, one)
    check_cost_table(nodes, other)
    columns = columns_of(nodes, other)
    return [[least_sum(row, column) for column in columns] for row in one]


def least_sum(row, column):
    """The least sum of a number of the wide row and the cost beside it; None if there is none."""
    met = [(wide, cost) for wide, cost in zip(row, column) if wide is not None and cost is not None]
    if any([wide == "below" for wide, _ in met]):
        return "below"
    return min([wide + cost for wide, cost in met], default=None)


def cost_back(nodes, one, over):
    """The wide table one back over a cost table."""
    check_wide(nodes, one)
    check_cost_table(nodes, over)
    return [[greatest_rest(row, costs) for costs in over] for row in one]


def greatest_rest(row, costs):
    """The greatest number of the wide row less the cost beside it, where there is one."""
    met = [(wide, cost) for wide, cost in zip(row, costs) if cost is not None]
    if any([wide is None for wide, _ in met]):
        return None
    return max([wide - cost for wide, cost in met if wide != "below"], default="below")


def pairs_in(nodes, telling, table):
    """The relation of the pairs that an answer in this telling has."""
    check_nodes(nodes)
    check_telling(telling)
    if telling == "whether":
        check_relation(nodes, table)
        return list(table)
    if telling == "many":
        check_matrix(nodes, table)
        return [(x, y) for x in range(nodes) for y in range(nodes) if table[x][y] > 0]
    check_cost_table(nodes, table)
    return [(x, y) for x in range(nodes) for y in range(nodes) if table[x][y] is not None]
