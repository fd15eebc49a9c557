"""Shorter games with the same good leaves."""

from choosersrow.aims import Aim
from choosersrow.aimtables import unmet_context
from choosersrow.games import ITEMS_BEFORE, Game, trees_behind
from choosersrow.orders import order_of
from choosersrow.sizes import is_small


def node_orders(game):
    """Return for each node the order of its aim, or None where it has none."""
    return tuple([order_of(node.aim) for node in game.nodes])


def shorten_game(game):
    """Return the shortened game."""
    return Game(game.outcomes, shortened_tree(game.tree, game.outcomes))


def shortened_tree(tree, outcomes):
    """Return the shortened tree."""
    if tree[0] == "end":
        return tree
    below = tuple([shortened_tree(part, outcomes) for part in trees_behind(tree)])
    aim = Aim(tree[2], len(below), outcomes)
    if len(below) == 1 and unmet_context(aim) is None:
        return below[0]
    ranks = order_of(aim)
    if ranks is None:
        return tree[:ITEMS_BEFORE] + below
    return ("node", tree[1], ("best", ranks)) + joined_trees(below, ranks, outcomes)


def joined_trees(below, ranks, outcomes):
    """Return the trees behind a node that has the order, once those trees are joined that can be."""
    joined = ()
    for place, tree in enumerate(below):
        to_the_right = len(below) - place - 1
        behind = trees_behind(tree)
        if has_order(tree, ranks) and is_small(len(joined) + len(behind) + to_the_right, outcomes):
            joined = joined + behind
        else:
            joined = joined + (tree,)
    return joined


def has_order(tree, ranks):
    """Return whether a shortened tree is a node whose aim has the order."""
    # In a shortened tree, the aim of a node with an order is written with these ranks, and it has two or more
    # options. So no other aim has the same order, and order_of need not be asked once more.
    return tree[0] == "node" and tree[2] == ("best", ranks)
