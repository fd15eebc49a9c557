"""Loose games as games, and games as loose games."""

from choosersrow.errors import OutOfRange, TooLarge
from choosersrow.games import Game, placed_trees, trees_behind
from choosersrow.loosegames import LooseGame, targets_of, way_lengths
from choosersrow.loosevalues import require_stand_plan
from choosersrow.terms import is_below


def cut_tree(loose, number, length, outcome):
    """Return the tree of the ways from a stand with at most so many options, with the outcome where they are cut."""
    stand = loose.stands[number]
    if stand[0] == "end":
        return stand
    if length == 0:
        return ("end", outcome)
    below = tuple([cut_tree(loose, target, length - 1, outcome) for target in targets_of(stand)])
    return ("node", stand[1], stand[2]) + below


def require_small_cut(loose, length):
    """Return None if the game of the ways with at most so many options has at most 30 nodes and at most 60 leaves."""
    # The parts are counted without being made, as there can be far too many ways.
    sizes = [(0, 1)] * len(loose.stands)
    for _ in range(length):
        sizes = [cut_size(stand, sizes) for stand in loose.stands]
    nodes, leaves = sizes[0]
    if nodes > Game.MOST_NODES or leaves > Game.MOST_LEAVES:
        raise TooLarge("a game has at most 30 nodes and at most 60 leaves")


def cut_size(stand, sizes):
    """Return the numbers of nodes and leaves of the part at a stand, given those of the parts cut one option before."""
    if stand[0] == "end":
        return (0, 1)
    behind = [sizes[target] for target in targets_of(stand)]
    return (1 + sum([nodes for nodes, _ in behind]), sum([leaves for _, leaves in behind]))


def require_unfolded(loose):
    """Return the greatest number of options of a way, if the unfolded game is not too large."""
    _, greatest = way_lengths(loose)
    if greatest > Game.MOST_LEVELS:
        raise TooLarge("a node is below at most 11 other nodes")
    require_small_cut(loose, greatest)
    return greatest


def unfold_game(loose):
    """Return the unfolded game."""
    length = require_unfolded(loose)
    # No way is longer, so nothing is cut, and any outcome will do.
    return Game(loose.outcomes, cut_tree(loose, 0, length, 0))


def unfolded_plan(loose, plan):
    """Return the plan of the unfolded game that has at each node the entry of the stand plan."""
    require_stand_plan(loose, plan)
    require_unfolded(loose)
    return entries_from(loose, plan, 0)


def entries_from(loose, plan, number):
    """Return the entries of the stand plan for the nodes of the unfolded game from a stand on."""
    if plan[number] is None:
        return ()
    entries = (plan[number],)
    for target in targets_of(loose.stands[number]):
        entries = entries + entries_from(loose, plan, target)
    return entries


def cut_game(loose, *, length, outcome):
    """Return the game of the ways with at most so many options, with the outcome where they are cut."""
    if not 0 <= length <= Game.MOST_LEVELS or not is_below(outcome, loose.outcomes):
        raise OutOfRange("a length is from 0 to 12, and the outcome is one of the loose game")
    require_small_cut(loose, length)
    return Game(loose.outcomes, cut_tree(loose, 0, length, outcome))


def fold_game(game):
    """Return the loose game with one stand for each different tree of the game."""
    trees = []
    for _, tree in placed_trees(game.tree, ()):
        if tree not in trees:
            trees.append(tree)
    return LooseGame(game.outcomes, tuple([stand_of(tree, trees) for tree in trees]))


def stand_of(tree, trees):
    """Return the stand of a tree, given all different trees in the order of their stands."""
    if tree[0] == "end":
        return tree
    return ("stand", tree[1], tree[2]) + tuple([trees.index(below) for below in trees_behind(tree)])
