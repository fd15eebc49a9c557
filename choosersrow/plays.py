"""Plans of games: their plays, what the nodes face under them, and which nodes are faulty."""

from choosersrow.errors import InvalidPlan
from choosersrow.terms import is_below


def require_beginning(widths, entries):
    """Return None if the tuple has numbers below the first widths, in order."""
    for index, entry in enumerate(entries):
        if index >= len(widths) or not is_below(entry, widths[index]):
            raise InvalidPlan(index)


def require_whole(widths, entries):
    """Return None if the tuple has one number below each width, in order."""
    require_beginning(widths, entries)
    if len(entries) < len(widths):
        raise InvalidPlan(len(entries))


def option_numbers(game):
    """Return the numbers of options of the nodes, in order."""
    return tuple([node.aim.options for node in game.nodes])


def require_prefix(game, prefix):
    """Return None if the tuple has options of the first nodes, in order."""
    require_beginning(option_numbers(game), prefix)


def require_plan(game, plan):
    """Return None if the tuple is a plan of the game."""
    require_whole(option_numbers(game), plan)


def root_of(game):
    """Return the pair of the kind and the number of the root."""
    return ("node", 0) if game.nodes else ("leaf", 0)


def numbers_from_last(game):
    """Return the numbers of the nodes, the last one first: so each node comes after those behind it."""
    return list(range(len(game.nodes) - 1, -1, -1))


def leaf_outcomes(ends):
    """Return a dict of the outcomes of the leaves, under the pairs of kind and number."""
    return {("leaf", leaf): outcome for leaf, outcome in enumerate(ends)}


def played_to(game, plan):
    """Return the play of the plan and the number of the leaf to which it comes."""
    play = ()
    kind, number = root_of(game)
    while kind == "node":
        play = play + (plan[number],)
        kind, number = game.nodes[number].children[plan[number]]
    return (play, number)


def all_outcomes_under(game, plan):
    """Return a dict of the outcomes at the leaves and the nodes under the plan, under the pairs of kind and number."""
    outcomes = leaf_outcomes(game.ends)
    for number in numbers_from_last(game):
        outcomes[("node", number)] = outcomes[game.nodes[number].children[plan[number]]]
    return outcomes


def context_of(node, outcomes):
    """Return the context of the node, given the outcomes at the leaves and the nodes behind it."""
    return tuple([outcomes[child] for child in node.children])


def play_out(game, plan):
    """Return the pair of the play of the plan and its outcome."""
    require_plan(game, plan)
    play, leaf = played_to(game, plan)
    return (play, game.ends[leaf])


def outcomes_under(game, plan):
    """Return the outcomes at the nodes under the plan, in order."""
    require_plan(game, plan)
    outcomes = all_outcomes_under(game, plan)
    return tuple([outcomes[("node", number)] for number in range(len(game.nodes))])


def contexts_under(game, plan):
    """Return the contexts of the nodes under the plan, in order."""
    require_plan(game, plan)
    outcomes = all_outcomes_under(game, plan)
    return tuple([context_of(node, outcomes) for node in game.nodes])


def faulty_nodes(game, plan):
    """Return the numbers of the nodes that are faulty under the plan, in ascending order."""
    contexts = contexts_under(game, plan)
    faulty = []
    for number, node in enumerate(game.nodes):
        if plan[number] not in node.aim.good(contexts[number]):
            faulty.append(number)
    return tuple(faulty)


def is_optimal(game, plan):
    """Return whether the plan is optimal."""
    return len(faulty_nodes(game, plan)) == 0
