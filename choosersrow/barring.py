"""Nodes whose aims are not met, and ends with which no plan is optimal."""

from choosersrow.aimtables import unmet_context


def unmet_nodes(game):
    """Return the numbers of the nodes whose aim is not met, in ascending order."""
    return tuple([number for number, node in enumerate(game.nodes) if unmet_context(node.aim) is not None])


def leaves_behind(game, child):
    """Return the list of the numbers of the leaves at or behind a leaf or a node."""
    kind, number = child
    if kind == "leaf":
        return [number]
    return [leaf for below in game.nodes[number].children for leaf in leaves_behind(game, below)]


def barring_ends(game):
    """Return ends with which no plan of the game is optimal, or None if the aims of all nodes are met."""
    unmet = unmet_nodes(game)
    if len(unmet) == 0:
        return None
    node = game.nodes[unmet[0]]
    ends = list(game.ends)
    for child, outcome in zip(node.children, unmet_context(node.aim)):
        for leaf in leaves_behind(game, child):
            ends[leaf] = outcome
    return tuple(ends)
