"""Plans that callables make, and optimal plans."""

from choosersrow.errors import InvalidPlan, NotOptimal, SizeMismatch, TooLarge
from choosersrow.plays import context_of, contexts_under, faulty_nodes, is_optimal, leaf_outcomes, numbers_from_last
from choosersrow.terms import is_below
from choosersrow.turnaims import chooser_with
from choosersrow.walks import all_choices

MOST_PLANS = 1024


def answered_plan(game, ends, choosers):
    """Return the plan that one callable for each node makes in the game with the ends."""
    outcomes = leaf_outcomes(ends)
    answers = []
    for number in numbers_from_last(game):
        node = game.nodes[number]
        context = context_of(node, outcomes)
        chooser = choosers[number]
        answer = chooser(context)
        if not is_below(answer, node.aim.options):
            raise InvalidPlan(number)
        answers.append(answer)
        outcomes[("node", number)] = context[answer]
    return tuple(answers[::-1])


def plan_by(game, choosers):
    """Return the plan that the callables answer, which are asked from the last node to the first."""
    if len(choosers) != len(game.nodes):
        raise SizeMismatch("there is one callable for each node")
    return answered_plan(game, game.ends, choosers)


def require_optimal(game, plan):
    """Return None if the tuple is an optimal plan of the game."""
    faulty = faulty_nodes(game, plan)
    if len(faulty) > 0:
        raise NotOptimal(faulty[0])


def choosers_for(game, plan):
    """Return one chooser for each node, with which plan_by makes the optimal plan again."""
    require_optimal(game, plan)
    choosers = []
    for node, context, option in zip(game.nodes, contexts_under(game, plan), plan):
        choosers.append(chooser_with(node.aim, context, option))
    return tuple(choosers)


def optimal_plans(game):
    """Yield the optimal plans of a game with at most 1024 plans, in ascending order."""
    if game.plans > MOST_PLANS:
        raise TooLarge("the game has more than 1024 plans")
    widths = tuple([node.aim.options for node in game.nodes])
    for plan in all_choices(widths):
        if is_optimal(game, plan):
            yield plan
