"""A whole game as one aim, as one chooser and as one node."""

from choosersrow.aims import Aim
from choosersrow.aimtables import require_small
from choosersrow.choosers import Chooser
from choosersrow.errors import SizeMismatch
from choosersrow.facing import good_leaves_with
from choosersrow.games import Game
from choosersrow.optimal import answered_plan
from choosersrow.plays import played_to
from choosersrow.sizes import all_contexts, require_same_outcomes, require_same_size


def all_ends(game):
    """Return the tuples of ends of a game in ascending order."""
    require_small(len(game.ends), game.outcomes)
    return all_contexts(len(game.ends), game.outcomes)


def composed_aim(game):
    """Return the composed aim of the game, as a table."""
    rows = tuple([good_leaves_with(game, ends) for ends in all_ends(game)])
    return Aim(("table", rows), len(game.ends), game.outcomes)


def composed_chooser(game, choosers):
    """Return the composed chooser of the game with one chooser for each node."""
    if len(choosers) != len(game.nodes):
        raise SizeMismatch("there is one chooser for each node")
    for node, chooser in zip(game.nodes, choosers):
        require_same_size(node.aim, chooser)
    row = [played_to(game, answered_plan(game, ends, choosers))[1] for ends in all_ends(game)]
    return Chooser(len(game.ends), game.outcomes, tuple(row))


def parting_ends(game, other):
    """Return the first tuple of ends with which the good leaves of the two games differ, or None."""
    if len(game.ends) != len(other.ends):
        raise SizeMismatch("the numbers of leaves differ")
    require_same_outcomes(game, (other,))
    for ends in all_ends(game):
        if good_leaves_with(game, ends) != good_leaves_with(other, ends):
            return ends
    return None


def flatten_game(game):
    """Return the game with one node whose aim is the composed aim; a leaf stays a leaf."""
    aim = composed_aim(game)
    if len(game.nodes) == 0:
        return Game(game.outcomes, game.tree)
    leaves = tuple([("end", outcome) for outcome in game.ends])
    return Game(game.outcomes, ("node", game.nodes[0].player, aim.term) + leaves)
