"""Ranks, and the orders of aims."""

from choosersrow.aims import RANKS_END, Aim
from choosersrow.aimtables import good_in_contexts
from choosersrow.errors import OutOfRange
from choosersrow.sizes import has_outcomes
from choosersrow.terms import is_below
from choosersrow.walks import all_choices


def dense_ranks(ranks):
    """Return the dense ranks of the ranks."""
    if not has_outcomes(len(ranks)) or not all([is_below(rank, RANKS_END) for rank in ranks]):
        raise OutOfRange("ranks are 1 to 4 numbers from 0 to 9")
    levels = sorted(set(ranks))
    return tuple([levels.index(rank) for rank in ranks])


def opposite_ranks(ranks):
    """Return the opposite ranks of the ranks."""
    dense = dense_ranks(ranks)
    greatest = max(dense)
    return tuple([greatest - rank for rank in dense])


def dense_orders(outcomes):
    """Return all dense ranks with so many entries, in ascending order."""
    if not has_outcomes(outcomes):
        raise OutOfRange("there are 1 to 4 outcomes")
    widths = (outcomes,) * outcomes
    return tuple([ranks for ranks in all_choices(widths) if dense_ranks(ranks) == ranks])


def order_of(aim):
    """Return the first dense ranks whose best options are the good options of the aim, or None."""
    rows = good_in_contexts(aim)
    for ranks in dense_orders(aim.outcomes):
        if are_best(rows, Aim(("best", ranks), aim.options, aim.outcomes)):
            return ranks
    return None


def are_best(rows, best):
    """Return whether the good options of the second aim are those in the pairs of context and options."""
    for context, good in rows:
        if best.good(context) != good:
            return False
    return True
