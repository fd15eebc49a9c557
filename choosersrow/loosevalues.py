"""What loose games come to, and the optimal stand plans."""

from choosersrow.errors import InvalidPlan, TooLarge
from choosersrow.facing import ascending, value_of
from choosersrow.loosegames import require_end, targets_first, targets_of
from choosersrow.sizes import rows_through
from choosersrow.terms import is_below
from choosersrow.walks import all_choices, count_choices

MOST_STAND_PLANS = 1024


def stand_values(loose):
    """Return the values of the stands, in order, with None for each stand that is not reached."""
    require_end(loose)
    values = {}
    for number in targets_first(loose):
        values[number] = stand_value(loose, number, values)
    return tuple([values.get(number, None) for number in range(len(loose.stands))])


def stand_value(loose, number, values):
    """Return the value of a stand, given those of its targets."""
    stand = loose.stands[number]
    if stand[0] == "end":
        return (stand[1],)
    contexts = rows_through([values[target] for target in targets_of(stand)])
    return value_of([(context, loose.aims[number].good(context)) for context in contexts])


def choosing_stands(loose):
    """Return the numbers of the reached choosing stands, in ascending order."""
    return tuple([number for number in loose.reached if loose.stands[number][0] == "stand"])


def is_entry(loose, number, entry):
    """Return whether a stand plan can have the entry at the stand with the number."""
    if number not in choosing_stands(loose):
        return entry is None
    return is_below(entry, loose.aims[number].options)


def require_stand_plan(loose, plan):
    """Return None if the tuple is a stand plan of the loose game."""
    require_end(loose)
    many = len(loose.stands)
    for index, entry in enumerate(plan):
        if index >= many or not is_entry(loose, index, entry):
            raise InvalidPlan(index)
    if len(plan) < many:
        raise InvalidPlan(len(plan))


def stand_outcomes(loose, order, plan):
    """Return a dict of the outcomes of the reached stands under the stand plan; in the order, targets come first."""
    outcomes = {}
    for number in order:
        stand = loose.stands[number]
        outcomes[number] = stand[1] if stand[0] == "end" else outcomes[targets_of(stand)[plan[number]]]
    return outcomes


def is_good(loose, plan, outcomes):
    """Return whether the option at each reached choosing stand is good, given the outcomes under the stand plan."""
    for number in choosing_stands(loose):
        context = tuple([outcomes[target] for target in targets_of(loose.stands[number])])
        if plan[number] not in loose.aims[number].good(context):
            return False
    return True


def is_stand_optimal(loose, plan):
    """Return whether the stand plan is optimal."""
    require_stand_plan(loose, plan)
    return is_good(loose, plan, stand_outcomes(loose, targets_first(loose), plan))


def plan_with(loose, options):
    """Return the stand plan with the options at the reached choosing stands, in order."""
    entries = {number: option for number, option in zip(choosing_stands(loose), options)}
    return tuple([entries.get(number, None) for number in range(len(loose.stands))])


def optimal_pairs_of(loose):
    """Return the pairs of an optimal stand plan and the outcome of stand 0 under it, in the order of the plans."""
    require_end(loose)
    widths = tuple([loose.aims[number].options for number in choosing_stands(loose)])
    if count_choices(widths) > MOST_STAND_PLANS:
        raise TooLarge("the loose game has more than 1024 stand plans")
    order = targets_first(loose)
    pairs = []
    for options in all_choices(widths):
        plan = plan_with(loose, options)
        outcomes = stand_outcomes(loose, order, plan)
        if is_good(loose, plan, outcomes):
            pairs.append((plan, outcomes[0]))
    return pairs


def stand_plans(loose):
    """Return all optimal stand plans in ascending order."""
    return tuple([plan for plan, _ in optimal_pairs_of(loose)])


def stand_ends(loose):
    """Return the outcomes that stand 0 has under the optimal stand plans, in ascending order."""
    return ascending([outcome for _, outcome in optimal_pairs_of(loose)])
