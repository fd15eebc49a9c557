"""Aims in turn: one first, and others behind its options."""

from choosersrow.aims import Aim
from choosersrow.aimtables import table_aim
from choosersrow.choosers import Chooser, answered_context
from choosersrow.errors import NotGood
from choosersrow.sizes import all_contexts, context_index, require_same_outcomes, rows_through, segments_of
from choosersrow.terms import is_below
from choosersrow.turns import context_segments, join_option, option_counts, require_small_behind, split_option


def all_answers(nexts, segments):
    """Return the answers of the aims in their segments, in ascending order."""
    return rows_through([aim.good(segment) for aim, segment in zip(nexts, segments)])


def good_behind(first, nexts, segments):
    """Return the ascending tuple of the flat options that answers make good in the context of these segments."""
    sizes = option_counts(nexts)
    good = []
    for answers in all_answers(nexts, segments):
        for option in first.good(answered_context(segments, answers)):
            good.append(join_option(sizes, (option, answers[option])))
    return tuple(sorted(set(good)))


def aim_behind(first, nexts):
    """Return the table aim on the flat options that has the other aims behind the options of the first."""
    require_small_behind(first, nexts)
    sizes = option_counts(nexts)
    contexts = all_contexts(sum(sizes), first.outcomes)
    rows = tuple([good_behind(first, nexts, segments_of(sizes, context)) for context in contexts])
    return Aim(("table", rows), sum(sizes), first.outcomes)


def aims_in_turn(first, *rest):
    """Return the table aim of the aims in turn."""
    # Every number of outcomes is looked at before a result can be too large.
    require_same_outcomes(first, rest)
    aims = [first, *rest]
    joined = table_aim(aims[-1])
    for aim in aims[-2::-1]:
        joined = aim_behind(aim, (joined,) * aim.options)
    return joined


def choosers_to(first, nexts, context, option):
    """Return choosers, the first one and those behind it, that come to the good flat option in the context."""
    require_small_behind(first, nexts)
    segments = context_segments(first, nexts, context)
    answers = first_answers(first, nexts, segments, option)
    index, _ = split_option(option_counts(nexts), option)
    leader = chooser_with(first, answered_context(segments, answers), index)
    followers = [chooser_with(aim, segment, answer) for aim, segment, answer in zip(nexts, segments, answers)]
    return (leader, tuple(followers))


def first_answers(first, nexts, segments, option):
    """Return the first answers that make the flat option good."""
    sizes = option_counts(nexts)
    if is_below(option, sum(sizes)):
        index, rest = split_option(sizes, option)
        for answers in all_answers(nexts, segments):
            if answers[index] == rest and index in first.good(answered_context(segments, answers)):
                return answers
    raise NotGood("the flat option is not good in the context")


def chooser_with(aim, context, option):
    """Return the chooser that picks the option in the context, and the least good one in the others."""
    row = list(Chooser.first_good(aim).row)
    row[context_index(context, aim.outcomes)] = option
    return Chooser(aim.options, aim.outcomes, tuple(row))
