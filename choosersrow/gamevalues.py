"""What the optimal plans of games come to."""

from choosersrow.facing import ascending, faced_pairs, good_leaves_with, optimal_pairs, root_value, value_of


def node_values(game):
    """Return the values of the nodes, in order."""
    return tuple([value_of(pairs) for pairs in faced_pairs(game, game.ends)])


def game_value(game):
    """Return the value of the game."""
    return root_value(game.ends, faced_pairs(game, game.ends))


def good_leaves(game):
    """Return the numbers of the leaves to which optimal plans come, in ascending order."""
    return good_leaves_with(game, game.ends)


def optimal_options(game):
    """Return for each node the options that the optimal plans of the game have at it."""
    return tuple([ascending([option for _, option in pairs]) for pairs in optimal_pairs(game)])


def optimal_outcomes(game):
    """Return for each node the outcomes at it under the optimal plans of the game."""
    return tuple([ascending([context[option] for context, option in pairs]) for pairs in optimal_pairs(game)])
