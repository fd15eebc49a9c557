"""Which leaves of a duel decide it."""

from choosersrow.aims import wrong_ascending
from choosersrow.duels import node_sides, winner_with, winners_with
from choosersrow.errors import OutOfRange
from choosersrow.plays import root_of


def certified_outcome(game, leaves):
    """Return the outcome that the leaves certify, or None."""
    sides = node_sides(game)
    if wrong_ascending(leaves, len(game.ends)) is not None:
        raise OutOfRange("the leaves are an ascending tuple of numbers of leaves")
    # No node turns an outcome round: where more leaves have outcome 1, the winner cannot be 0 instead of 1.
    # So it is enough to look at the two cases in which all other leaves have one outcome.
    low = winner_with(game, sides, other_ends(game, leaves, 0))
    high = winner_with(game, sides, other_ends(game, leaves, 1))
    return low if low == high else None


def other_ends(game, leaves, outcome):
    """Return the ends of the game with the outcome at all leaves but these."""
    return tuple([end if leaf in leaves else outcome for leaf, end in enumerate(game.ends)])


def least_certificate(game):
    """Return the first certificate, in ascending order, among those with the fewest leaves."""
    sides = node_sides(game)
    return part_certificate(game, sides, winners_with(game, sides, game.ends), root_of(game))


def part_certificate(game, sides, winners, child):
    """Return the first of the smallest certificates of the part of a duel at the child."""
    kind, number = child
    if kind == "leaf":
        return (number,)
    winner = winners[child]
    behind = [below for below in game.nodes[number].children if winners[below] == winner]
    found = [part_certificate(game, sides, winners, below) for below in behind]
    if sides[number] == winner:
        # One of the parts is enough. Among equally small ones min takes the first, which has the lesser leaves.
        return min(found, key=len)
    return tuple([leaf for certificate in found for leaf in certificate])


def pivot_leaves(game):
    """Return the numbers of the leaves that change the winner if their outcome changes, in ascending order."""
    sides = node_sides(game)
    winner = winner_with(game, sides, game.ends)
    pivots = []
    for leaf, end in enumerate(game.ends):
        ends = game.ends[:leaf] + (1 - end,) + game.ends[leaf + 1:]
        if winner_with(game, sides, ends) != winner:
            pivots.append(leaf)
    return tuple(pivots)
