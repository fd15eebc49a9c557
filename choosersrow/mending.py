"""How many options of a plan have to change for it to become optimal."""

from choosersrow.picking import is_kept
from choosersrow.plays import leaf_outcomes, numbers_from_last, root_of


def least_change(game, facing, plan, prefix):
    """Return at how few nodes an optimal plan that begins with the prefix differs from the plan.

    It returns None if there is no such optimal plan.
    """
    changes = {leaf: {outcome: 0} for leaf, outcome in leaf_outcomes(game.ends).items()}
    for number in numbers_from_last(game):
        changes[("node", number)] = node_changes(game, number, facing[number], changes, plan, prefix)
    return min(changes[root_of(game)].values(), default=None)


def node_changes(game, number, pairs, changes, plan, prefix):
    """Return a dict of the least changes in the part at a node by outcome, given those of the parts behind it."""
    found = {}
    for context, good in pairs:
        change = change_together(game.nodes[number].children, context, changes)
        for option in good:
            if change is not None and is_kept(prefix, number, option):
                more = change + (0 if option == plan[number] else 1)
                found[context[option]] = min(more, found.get(context[option], more))
    return found


def change_together(children, context, changes):
    """Return the least change in the parts at the children that comes to the context, or None if none does."""
    change = 0
    for child, outcome in zip(children, context):
        if outcome not in changes[child]:
            return None
        change = change + changes[child][outcome]
    return change
