"""Counting, numbering and finding optimal plans, without going through all plans."""

from choosersrow.errors import OutOfRange
from choosersrow.facing import faced_pairs
from choosersrow.mending import least_change
from choosersrow.optimal import require_optimal
from choosersrow.picking import part_counts, picked_plan
from choosersrow.plays import require_plan, require_prefix, root_of
from choosersrow.terms import is_below

MOST_YIELDED = 1024


def root_counts(game, facing, prefix):
    """Return the counts of the optimal plans of the game that begin with the prefix."""
    return tuple(part_counts(game, facing, prefix)[root_of(game)])


def count_plans(game):
    """Return for each outcome the number of optimal plans that come to it."""
    return count_from(game, ())


def count_from(game, prefix):
    """Return for each outcome the number of optimal plans that begin with the prefix and come to it."""
    require_prefix(game, prefix)
    return root_counts(game, faced_pairs(game, game.ends), prefix)


def plan_at(game, index):
    """Return the optimal plan with the index."""
    facing = faced_pairs(game, game.ends)
    counts = part_counts(game, facing, ())
    root = root_of(game)
    if not 0 <= index < sum(counts[root]):
        raise OutOfRange("no optimal plan has this index")
    return picked_plan(game, facing, counts, root, (1,) * game.outcomes, index)[0]


def plan_index(game, plan):
    """Return the index of the optimal plan."""
    require_optimal(game, plan)
    facing = faced_pairs(game, game.ends)
    index = 0
    for number, option in enumerate(plan):
        for lesser in range(option):
            index = index + sum(root_counts(game, facing, plan[:number] + (lesser,)))
    return index


def plans_from(game, *, start=0, most=64):
    """Yield the optimal plans from the index start on, at most so many."""
    if start < 0 or not 0 <= most <= MOST_YIELDED:
        raise OutOfRange("the start is not below 0, and at most 1024 plans are yielded")
    facing = faced_pairs(game, game.ends)
    counts = part_counts(game, facing, ())
    root = root_of(game)
    end = min(start + most, sum(counts[root]))
    for index in range(start, end):
        yield picked_plan(game, facing, counts, root, (1,) * game.outcomes, index)[0]


def plan_to(game, *, outcome):
    """Return the first optimal plan that comes to the outcome, or None."""
    if not is_below(outcome, game.outcomes):
        raise OutOfRange("the number is not an outcome of the game")
    facing = faced_pairs(game, game.ends)
    counts = part_counts(game, facing, ())
    root = root_of(game)
    if counts[root][outcome] == 0:
        return None
    # With no weight on the other outcomes, only plans that come to this one stand for an index.
    weights = [1 if other == outcome else 0 for other in range(game.outcomes)]
    return picked_plan(game, facing, counts, root, weights, 0)[0]


def mended_plan(game, plan):
    """Return the optimal plan that differs from the plan at the fewest nodes, or None."""
    require_plan(game, plan)
    facing = faced_pairs(game, game.ends)
    least = least_change(game, facing, plan, ())
    if least is None:
        return None
    mended = ()
    for node in game.nodes:
        longer = [mended + (option,) for option in range(node.aim.options)]
        mended = [prefix for prefix in longer if least_change(game, facing, plan, prefix) == least][0]
    return mended
