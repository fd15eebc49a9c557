"""How many optimal plans the parts of a game have, and which one an index stands for."""

from choosersrow.plays import leaf_outcomes, numbers_from_last
from choosersrow.turns import split_option


def is_kept(prefix, number, option):
    """Return whether a plan that begins with the prefix can have the option at the node with the number."""
    return number >= len(prefix) or prefix[number] == option


def part_counts(game, facing, prefix):
    """Return a dict of the counts of optimal plans, one number for each outcome, of the parts at leaves and nodes.

    Only plans are counted whose options at the first nodes of the game are those of the prefix.
    """
    counts = {}
    for leaf, end in leaf_outcomes(game.ends).items():
        counts[leaf] = [1 if outcome == end else 0 for outcome in range(game.outcomes)]
    for number in numbers_from_last(game):
        counts[("node", number)] = node_counts(game, number, facing[number], counts, prefix)
    return counts


def node_counts(game, number, pairs, counts, prefix):
    """Return the counts of the part at a node, given those of the parts behind it."""
    found = [0] * game.outcomes
    for context, good in pairs:
        many = count_together(game.nodes[number].children, context, counts)
        for option in good:
            if is_kept(prefix, number, option):
                found[context[option]] = found[context[option]] + many
    return found


def count_together(children, context, counts):
    """Return the number of ways in which optimal plans of the parts at the children come to the context."""
    many = 1
    for child, outcome in zip(children, context):
        many = many * counts[child][outcome]
    return many


def picked_plan(game, facing, counts, child, weights, index):
    """Return an optimal plan of the part at the child, its outcome, and the rest of the index.

    The optimal plans of the part stand in ascending order for the indexes from 0 on, each for as many indexes as
    the weight of its outcome says. The rest tells which of the indexes of the plan is meant.
    """
    kind, number = child
    if kind == "leaf":
        return ((), game.ends[number], index)
    children = game.nodes[number].children
    option, rows, index = picked_rows(children, facing[number], counts, weights, index)
    plan = (option,)
    for place, below in enumerate(children):
        shares = shares_at(place, children, rows, counts, game.outcomes)
        part, outcome, index = picked_plan(game, facing, counts, below, shares, index)
        plan = plan + part
        rows = [(context, weight) for context, weight in rows if context[place] == outcome]
    # One context alone is left.
    return (plan, rows[0][0][option], index)


def picked_rows(children, pairs, counts, weights, index):
    """Return the option at a node for which the index stands, its contexts with their weights, and the rest."""
    found = []
    totals = []
    for option in range(len(children)):
        rows = [(context, weights[context[option]]) for context, good in pairs if option in good]
        found.append(rows)
        totals.append(sum([weight * count_together(children, context, counts) for context, weight in rows]))
    # The indexes stand for the options as flat options do, as many for each option as its total says.
    picked, rest = split_option(totals, index)
    return (picked, found[picked], rest)


def shares_at(place, children, rows, counts, outcomes):
    """Return the weights of the outcomes at the child at the place, which tell how much comes behind it."""
    shares = [0] * outcomes
    for context, weight in rows:
        many = weight * count_together(children[place + 1:], context[place + 1:], counts)
        shares[context[place]] = shares[context[place]] + many
    return shares
