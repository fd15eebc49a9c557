"""Choosers and the aims that they meet."""

from choosersrow.aims import Aim
from choosersrow.aimtables import aim_table
from choosersrow.choosers import Chooser
from choosersrow.errors import NotMet, OutOfRange
from choosersrow.orders import dense_orders
from choosersrow.sizes import all_contexts, options_with, require_same_size
from choosersrow.walks import choice_at, choice_index, count_choices

MOST_CHOOSERS = 1024


def missed_index(chooser, aim):
    """Return the number of the first context in which the option of the chooser is not good, or None."""
    require_same_size(chooser, aim)
    for index, context in enumerate(all_contexts(aim.options, aim.outcomes)):
        if chooser.row[index] not in aim.good(context):
            return index
    return None


def meets_aim(chooser, aim):
    """Return whether the chooser meets the aim."""
    return missed_index(chooser, aim) is None


def missed_context(chooser, aim):
    """Return the first context in which the option of the chooser is not good, or None."""
    index = missed_index(chooser, aim)
    return None if index is None else all_contexts(aim.options, aim.outcomes)[index]


def good_widths(table):
    """Return the numbers of good options: the widths whose choices stand for the choosers that meet the aim."""
    return tuple([len(good) for good in table])


def chooser_at(aim, table, index):
    """Return the chooser with the number among those that meet the aim with the table."""
    choice = choice_at(good_widths(table), index)
    return Chooser(aim.options, aim.outcomes, tuple([good[place] for good, place in zip(table, choice)]))


def count_meeting(aim):
    """Return the number of the choosers that meet the aim."""
    return count_choices(good_widths(aim_table(aim)))


def meeting_at(aim, index):
    """Return the chooser with the number among those that meet the aim."""
    return chooser_at(aim, aim_table(aim), index)


def meeting_index(aim, chooser):
    """Return the number of the chooser among those that meet the aim."""
    missed = missed_index(chooser, aim)
    if missed is not None:
        raise NotMet(missed)
    table = aim_table(aim)
    choice = tuple([good.index(option) for good, option in zip(table, chooser.row)])
    return choice_index(good_widths(table), choice)


def meeting_choosers(aim, *, start=0, most=64):
    """Yield the choosers that meet the aim, from the number start on, at most so many."""
    table = aim_table(aim)
    if start < 0 or not 0 <= most <= MOST_CHOOSERS:
        raise OutOfRange("the start is not below 0, and at most 1024 choosers are yielded")
    end = min(start + most, count_choices(good_widths(table)))
    for index in range(start, end):
        yield chooser_at(aim, table, index)


def gotten_outcomes(chooser):
    """Return the outcomes that the chooser gets, in the order of the contexts."""
    contexts = all_contexts(chooser.options, chooser.outcomes)
    return tuple([context[option] for context, option in zip(contexts, chooser.row)])


def made_aim(chooser):
    """Return the table aim for which the options with the outcome that the chooser gets are good."""
    contexts = all_contexts(chooser.options, chooser.outcomes)
    rows = [options_with(context, (gotten,)) for context, gotten in zip(contexts, gotten_outcomes(chooser))]
    return Aim(("table", tuple(rows)), chooser.options, chooser.outcomes)


def plain_chooser(chooser):
    """Return the chooser that picks the least option with the outcome that the chooser gets."""
    return Chooser.first_good(made_aim(chooser))


def choose_alike(first, second):
    """Return whether the two choosers get the same outcome in each context."""
    require_same_size(first, second)
    return gotten_outcomes(first) == gotten_outcomes(second)


def followed_orders(chooser):
    """Return all dense ranks that the chooser follows, in ascending order."""
    options, outcomes = chooser.options, chooser.outcomes
    orders = dense_orders(outcomes)
    return tuple([ranks for ranks in orders if meets_aim(chooser, Aim(("best", ranks), options, outcomes))])
