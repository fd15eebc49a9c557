"""The tables of aims, and what they tell."""

from choosersrow.aims import Aim
from choosersrow.errors import TooLarge
from choosersrow.sizes import all_contexts, is_small, options_with, require_same_size


def require_small(options, outcomes):
    """Return None if the size is small."""
    if not is_small(options, outcomes):
        raise TooLarge("the size is not small")


def good_in_contexts(aim):
    """Return the pairs of context and good options of an aim, in the order of the contexts."""
    require_small(aim.options, aim.outcomes)
    return [(context, aim.good(context)) for context in all_contexts(aim.options, aim.outcomes)]


def aim_table(aim):
    """Return the table of the aim."""
    return tuple([good for _, good in good_in_contexts(aim)])


def table_aim(aim):
    """Return the table aim with the table of the aim."""
    return Aim(("table", aim_table(aim)), aim.options, aim.outcomes)


def unmet_context(aim):
    """Return the first context in which no option is good, or None."""
    for context, good in good_in_contexts(aim):
        if len(good) == 0:
            return context
    return None


def parting_context(first, second):
    """Return the first context in which the good options of the two aims differ, or None."""
    require_same_size(first, second)
    for (context, good), other in zip(good_in_contexts(first), aim_table(second)):
        if good != other:
            return context
    return None


def is_within(first, second):
    """Return whether in each context every option that is good for the first aim is good for the second one."""
    require_same_size(first, second)
    for narrow, wide in zip(aim_table(first), aim_table(second)):
        if not all([option in wide for option in narrow]):
            return False
    return True


def is_fair(aim):
    """Return whether in each context any two options with the same outcome are both good or both not good."""
    return parting_context(aim, fair_hull(aim)) is None


def fair_hull(aim):
    """Return the table aim for which an option is good if one with its outcome is good for the aim."""
    rows = []
    for context, good in good_in_contexts(aim):
        rows.append(options_with(context, [context[option] for option in good]))
    return Aim(("table", tuple(rows)), aim.options, aim.outcomes)


def fair_core(aim):
    """Return the table aim for which an option is good if all with its outcome are good for the aim."""
    rows = []
    for context, good in good_in_contexts(aim):
        spoiled = [context[option] for option in range(aim.options) if option not in good]
        rows.append(options_with(context, [outcome for outcome in context if outcome not in spoiled]))
    return Aim(("table", tuple(rows)), aim.options, aim.outcomes)
