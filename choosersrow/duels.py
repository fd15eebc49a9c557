"""Duels: games with two outcomes, in which each node seeks one of them."""

from choosersrow.aims import RANKS_END, wrong_numbers
from choosersrow.errors import NotDuel, OutOfRange, SizeMismatch
from choosersrow.games import Game, trees_behind
from choosersrow.orders import dense_ranks, opposite_ranks
from choosersrow.plays import leaf_outcomes, numbers_from_last, require_plan, root_of
from choosersrow.terms import is_below

DUEL_OUTCOMES = 2


def sought_outcome(term):
    """Return the outcome that a node with the term as its aim seeks, or None if it is no node of a duel."""
    if term[0] != "best" or term[1][0] == term[1][1]:
        return None
    return 0 if term[1][0] > term[1][1] else 1


def node_sides(game):
    """Return the outcomes that the nodes of the duel seek, in order."""
    if game.outcomes != DUEL_OUTCOMES:
        raise SizeMismatch("a duel has two outcomes")
    sides = tuple([sought_outcome(node.aim.term) for node in game.nodes])
    if None in sides:
        raise NotDuel(sides.index(None))
    return sides


def winners_with(game, sides, ends):
    """Return a dict of the winners at the leaves and nodes of a duel with the ends and these sides of its nodes."""
    winners = leaf_outcomes(ends)
    for number in numbers_from_last(game):
        behind = [winners[child] for child in game.nodes[number].children]
        winners[("node", number)] = sides[number] if sides[number] in behind else 1 - sides[number]
    return winners


def winner_with(game, sides, ends):
    """Return the winner of a duel with the ends and these sides of its nodes."""
    return winners_with(game, sides, ends)[root_of(game)]


def duel_winner(game):
    """Return the winner of the duel."""
    return winner_with(game, node_sides(game), game.ends)


def winning_plan(game):
    """Return the side plan of the winner of the duel."""
    sides = node_sides(game)
    winners = winners_with(game, sides, game.ends)
    winner = winners[root_of(game)]
    plan = []
    for node, side in zip(game.nodes, sides):
        behind = [winners[child] for child in node.children]
        option = behind.index(winner) if winner in behind else 0
        plan.append(option if side == winner else None)
    return tuple(plan)


def kept_outcomes(game, plan, child):
    """Return the list of the outcomes of the plays from the child on that keep the side plan."""
    kind, number = child
    if kind == "leaf":
        return [game.ends[number]]
    children = game.nodes[number].children
    taken = children if plan[number] is None else (children[plan[number]],)
    return [outcome for below in taken for outcome in kept_outcomes(game, plan, below)]


def is_winning(game, plan, *, outcome):
    """Return whether every play that keeps the side plan ends with the outcome."""
    node_sides(game)
    # Each node has an option 0, so None is as right as that.
    require_plan(game, tuple([0 if entry is None else entry for entry in plan]))
    if not is_below(outcome, DUEL_OUTCOMES):
        raise OutOfRange("the outcome is 0 or 1")
    return all([end == outcome for end in kept_outcomes(game, plan, root_of(game))])


def threshold_aim(term, ranks):
    """Return the term of the aim in the threshold duel for a term of an aim, or None if there is none."""
    if term[0] == "best" and dense_ranks(term[1]) == dense_ranks(ranks):
        return ("best", (0, 1))
    if term[0] == "best" and dense_ranks(term[1]) == opposite_ranks(ranks):
        return ("best", (1, 0))
    return None


def threshold_tree(tree, ranks, least):
    """Return the tree of the threshold duel for a tree."""
    if tree[0] == "end":
        return ("end", 1 if ranks[tree[1]] >= least else 0)
    below = tuple([threshold_tree(part, ranks, least) for part in trees_behind(tree)])
    return ("node", tree[1], threshold_aim(tree[2], ranks)) + below


def threshold_duel(game, ranks, *, least):
    """Return the duel about whether the rank of the outcome is at least so much."""
    if wrong_numbers(ranks, game.outcomes, RANKS_END) is not None:
        raise OutOfRange("there is one rank from 0 to 9 for each outcome")
    for number, node in enumerate(game.nodes):
        if threshold_aim(node.aim.term, ranks) is None:
            raise NotDuel(number)
    return Game(DUEL_OUTCOMES, threshold_tree(game.tree, ranks, least))
