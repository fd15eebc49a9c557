"""Sizes and contexts, which aims, choosers and games share."""

from choosersrow.errors import SizeMismatch
from choosersrow.terms import is_below
from choosersrow.walks import choice_index, count_choices

MOST_OPTIONS = 64
MOST_OUTCOMES = 4
MOST_SMALL_OPTIONS = 8
MOST_SMALL_CONTEXTS = 256


def has_outcomes(outcomes):
    """Return whether there can be so many outcomes."""
    return 1 <= outcomes <= MOST_OUTCOMES


def is_size(options, outcomes):
    """Return whether the numbers are a size."""
    return 1 <= options <= MOST_OPTIONS and has_outcomes(outcomes)


def is_small(options, outcomes):
    """Return whether the numbers are a small size."""
    if not 1 <= options <= MOST_SMALL_OPTIONS or not has_outcomes(outcomes):
        return False
    return count_contexts(options, outcomes) <= MOST_SMALL_CONTEXTS


def require_same_size(first, second):
    """Return None if two aims, two choosers, or a chooser and an aim have one size."""
    if (first.options, first.outcomes) != (second.options, second.outcomes):
        raise SizeMismatch("the sizes differ")


def require_same_outcomes(first, others):
    """Return None if all choosers, all aims or all games have the same number of outcomes."""
    for other in others:
        if other.outcomes != first.outcomes:
            raise SizeMismatch("the numbers of outcomes differ")


def count_contexts(options, outcomes):
    """Return the number of contexts of a size."""
    return count_choices((outcomes,) * options)


def rows_through(columns):
    """Return the tuples with one entry of each column; the entries of the columns tell their order."""
    # The product of choosers runs this, and what an operator runs goes through no generator, as that changes it.
    rows = [()]
    for column in columns:
        rows = [row + (entry,) for row in rows for entry in column]
    return tuple(rows)


def all_contexts(options, outcomes):
    """Return the contexts of a small size in their order."""
    return rows_through((tuple(range(outcomes)),) * options)


def is_context(context, options, outcomes):
    """Return whether the value is a context of the size."""
    if not isinstance(context, tuple) or len(context) != options:
        return False
    return all([is_below(outcome, outcomes) for outcome in context])


def context_index(context, outcomes):
    """Return the number of a context among the contexts of its size."""
    return choice_index((outcomes,) * len(context), context)


def options_with(context, outcomes):
    """Return the options of a context that have one of the outcomes, in ascending order."""
    return tuple([option for option, outcome in enumerate(context) if outcome in outcomes])


def segments_of(sizes, entries):
    """Return the segments of a tuple: as many of its entries, one behind another, as each size says."""
    segments = []
    start = 0
    for size in sizes:
        segments.append(entries[start:start + size])
        start = start + size
    return tuple(segments)
