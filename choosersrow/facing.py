"""What the nodes of a game face under the optimal plans of its parts."""

from choosersrow.plays import leaf_outcomes, numbers_from_last, root_of
from choosersrow.sizes import rows_through


def ascending(numbers):
    """Return the tuple of the different numbers of a list, in ascending order."""
    return tuple(sorted(set(numbers)))


def faced_pairs(game, ends):
    """Return for each node the pairs of context and good options of the contexts that it can face.

    These are the contexts that come from optimal plans of the parts behind its options, in the game with the ends.
    """
    values = {leaf: (outcome,) for leaf, outcome in leaf_outcomes(ends).items()}
    found = []
    for number in numbers_from_last(game):
        node = game.nodes[number]
        contexts = rows_through([values[child] for child in node.children])
        pairs = [(context, node.aim.good(context)) for context in contexts]
        values[("node", number)] = value_of(pairs)
        found.append(pairs)
    return found[::-1]


def value_of(pairs):
    """Return the value of a node, given the contexts that it can face with their good options."""
    return ascending([context[option] for context, good in pairs for option in good])


def root_value(ends, facing):
    """Return the value of a game with the ends, given for each node the contexts that it can face."""
    return value_of(facing[0]) if facing else (ends[0],)


def settled_pairs(pairs, outcomes):
    """Return the pairs of context and good option that come to one of the outcomes."""
    return [(context, option) for context, good in pairs for option in good if context[option] in outcomes]


def optimal_pairs(game):
    """Return for each node the pairs of context and option that it has under the optimal plans of the game."""
    facing = faced_pairs(game, game.ends)
    wanted = {root_of(game): root_value(game.ends, facing)}
    settled = []
    for number, node in enumerate(game.nodes):
        pairs = settled_pairs(facing[number], wanted[("node", number)])
        for place, child in enumerate(node.children):
            wanted[child] = ascending([context[place] for context, _ in pairs])
        settled.append(pairs)
    return settled


def good_leaves_with(game, ends):
    """Return the numbers of the good leaves of the game with the ends, in ascending order."""
    facing = faced_pairs(game, ends)
    reached = {root_of(game): root_value(ends, facing)}
    for number, node in enumerate(game.nodes):
        pairs = settled_pairs(facing[number], reached[("node", number)])
        for place, child in enumerate(node.children):
            reached[child] = ascending([context[place] for context, option in pairs if option == place])
    return tuple([leaf for leaf in range(len(ends)) if len(reached[("leaf", leaf)]) > 0])
