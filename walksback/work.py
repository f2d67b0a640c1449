"""Plans at work on kept relations, step by step; reasons and denials of what they tell."""

from walksback.basics import is_list, is_rising
from walksback.checks import check_node, check_nodes, check_question, is_node
from walksback.settled import check_plan, chosen_plan
from walksback.tables import check_kept, check_pair, first_apart_of, joined_rows, nodes_in, relation_of, row_masks


def tables(lot, question, plan, nodes, kept):
    """The list of the relations of the plan: the one ahead of its steps, and one behind each."""
    check_work(lot, question, plan, nodes, kept)
    return [relation_of(masks) for masks in masks_at_work(plan, nodes, kept, all_masks(nodes))]


def told(lot, question, nodes, kept, plan=None):
    """The relation that a plan tells; that of the fewest steps, where none is passed."""
    check_question(question)
    check_nodes(nodes)
    check_kept(lot, nodes, kept)
    steps = chosen_plan(lot, question, plan)
    return relation_of(masks_at_work(steps, nodes, kept, all_masks(nodes))[-1])


def told_from(lot, question, nodes, kept, node, plan=None):
    """The sorted list of the nodes that stand behind this one in the pairs that a plan tells."""
    check_question(question)
    check_nodes(nodes)
    check_kept(lot, nodes, kept)
    check_node(nodes, node)
    steps = chosen_plan(lot, question, plan)
    return nodes_in(masks_at_work(steps, nodes, kept, [1 << node])[-1][0])


def parted(lot, question, plan, other, nodes, kept):
    """The least pair that just one of two plans tells; None without any."""
    check_question(question)
    check_plan(lot, question, plan)
    check_work(lot, question, other, nodes, kept)
    one = relation_of(masks_at_work(plan, nodes, kept, all_masks(nodes))[-1])
    return first_apart_of(one, relation_of(masks_at_work(other, nodes, kept, all_masks(nodes))[-1]))


def check_work(lot, question, plan, nodes, kept):
    """Raises the errors of the parameters that all of a plan at work have."""
    check_question(question)
    check_plan(lot, question, plan)
    check_nodes(nodes)
    check_kept(lot, nodes, kept)


def all_masks(nodes):
    """The rows of the relation ahead of all steps: each node alone."""
    return [1 << x for x in range(nodes)]


def masks_at_work(steps, nodes, kept, masks):
    """The list of the rows ahead of the steps and behind each; a row is a number with a bit for each of its nodes."""
    rows = {word: row_masks(nodes, kept[word]) for word in kept}
    behind = [masks]
    for step in steps:
        behind.append([mask_behind(step, mask, rows[step[1]]) for mask in behind[-1]])
    return behind


def mask_behind(step, mask, rows):
    """The row behind a step, by the row ahead of it and the rows of its word's relation."""
    if step[0] < step[2]:
        return joined_rows(mask, rows)
    return mask_of([node for node in range(len(rows)) if is_part(rows[node], mask)])


def is_part(one, other):
    """Whether each node of one row is in the other one."""
    return (one | other) == other


def mask_of(nodes):
    """The row of unlike nodes."""
    return sum([1 << node for node in nodes])


def reason(lot, question, plan, nodes, kept, pair):
    """A reason of the pair: all that may stand behind the steps; None if the plan does not tell the pair."""
    lists = lists_from(lot, question, plan, nodes, kept, pair)
    return lists if pair[1] in lists[-1] else None


def denial(lot, question, plan, nodes, kept, pair):
    """A denial of the pair: just what may stand behind the steps; None if the plan tells the pair."""
    lists = lists_from(lot, question, plan, nodes, kept, pair)
    return None if pair[1] in lists[-1] else lists


def lists_from(lot, question, plan, nodes, kept, pair):
    """The rising lists of all nodes that may stand ahead of the steps, and behind each, for the first of the pair."""
    check_work(lot, question, plan, nodes, kept)
    check_pair(nodes, pair)
    return [nodes_in(masks[0]) for masks in masks_at_work(plan, nodes, kept, [1 << pair[0]])]


def is_reason(lot, question, plan, nodes, kept, pair, value):
    """Whether any value is a reason of the pair."""
    check_work(lot, question, plan, nodes, kept)
    check_pair(nodes, pair)
    if not are_node_lists(nodes, len(plan) + 1, value):
        return False
    masks = [mask_of(some) for some in value]
    most = most_behind(plan, nodes, kept, pair[0], masks)
    return pair[1] in value[-1] and all([is_part(mask, limit) for mask, limit in zip(masks, most)])


def is_denial(lot, question, plan, nodes, kept, pair, value):
    """Whether any value is a denial of the pair."""
    check_work(lot, question, plan, nodes, kept)
    check_pair(nodes, pair)
    if not are_node_lists(nodes, len(plan) + 1, value):
        return False
    masks = [mask_of(some) for some in value]
    most = most_behind(plan, nodes, kept, pair[0], masks)
    return pair[1] not in value[-1] and all([is_part(limit, mask) for mask, limit in zip(masks, most)])


def most_behind(steps, nodes, kept, first, masks):
    """For each row the one of all nodes that may stand there: the first node, then what the row ahead lets."""
    rows = {word: row_masks(nodes, kept[word]) for word in kept}
    return [1 << first] + [mask_behind(step, mask, rows[step[1]]) for step, mask in zip(steps, masks)]


def are_node_lists(nodes, many, value):
    """Whether any value is a list of so many rising lists of nodes."""
    if not is_list(value) or len(value) != many:
        return False
    return all([is_rising_nodes(nodes, some) for some in value])


def is_rising_nodes(nodes, value):
    """Whether any value is a rising list of some of so many nodes."""
    return is_list(value) and all([is_node(nodes, node) for node in value]) and is_rising(value)
