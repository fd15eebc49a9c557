"""Games put together from games and from levels, and their plans."""

from choosersrow.errors import OutOfRange, SizeMismatch, TooLarge
from choosersrow.games import Game, count_leaves, tree_with_leaves, trees_behind
from choosersrow.plays import require_plan, root_of
from choosersrow.sizes import require_same_outcomes
from choosersrow.walks import count_choices


def count_nodes(tree):
    """Return the number of nodes of a tree."""
    if tree[0] == "end":
        return 0
    return 1 + sum([count_nodes(below) for below in trees_behind(tree)])


def count_levels(tree):
    """Return the greatest number of nodes on a way from the root of a tree to a leaf."""
    if tree[0] == "end":
        return 0
    return 1 + max([count_levels(below) for below in trees_behind(tree)])


def grafted_tree(game, games):
    """Return the tree of the graft."""
    if len(games) != len(game.ends):
        raise SizeMismatch("there is one game for each leaf")
    require_same_outcomes(game, games)
    tree = tree_with_leaves(game.tree, tuple([other.tree for other in games]))
    if count_nodes(tree) > Game.MOST_NODES or count_leaves(tree) > Game.MOST_LEAVES:
        raise TooLarge("a game has at most 30 nodes and at most 60 leaves")
    if count_levels(tree) > Game.MOST_LEVELS:
        raise TooLarge("a node is below at most 11 other nodes")
    return tree


def graft_games(game, games):
    """Return the game with the tree of one of the games in the place of each leaf."""
    return Game(game.outcomes, grafted_tree(game, games))


def join_plans(game, plan, games, plans):
    """Return the plan of the graft that has at each node the option in the plan that it stems from."""
    if len(plans) != len(games):
        raise SizeMismatch("there is one plan for each of the games")
    # The graft itself is not needed, but it has to be possible.
    grafted_tree(game, games)
    require_plan(game, plan)
    for other, entries in zip(games, plans):
        require_plan(other, entries)
    return joined_entries(game, root_of(game), plan, plans)


def joined_entries(game, child, plan, plans):
    """Return the joined entries of the nodes of the graft that are at or behind a leaf or a node of the game."""
    kind, number = child
    if kind == "leaf":
        return plans[number]
    entries = (plan[number],)
    for below in game.nodes[number].children:
        entries = entries + joined_entries(game, below, plan, plans)
    return entries


def cut_plan(game, plan, way):
    """Return the plan of the part of the game at the way that has the options of the plan."""
    require_plan(game, plan)
    # A way that leads nowhere has no part.
    game.part(way)
    return tuple([option for node, option in zip(game.nodes, plan) if node.way[:len(way)] == way])


def level_game(outcomes, levels, ends):
    """Return the game in levels with the ends."""
    widths = tuple([level[2] for level in levels])
    if not all([width >= 1 for width in widths]) or count_choices(widths) != len(ends):
        raise OutOfRange("each level has an option, and there is one end for each way")
    trees = [("end", outcome) for outcome in ends]
    for player, term, options in levels[::-1]:
        groups = [tuple(trees[start:start + options]) for start in range(0, len(trees), options)]
        trees = [("node", player, term) + group for group in groups]
    return Game(outcomes, trees[0])
