"""Choosers in turn: one first, and others behind its options."""

from choosersrow.choosers import Chooser, answered_context, row_behind, segment_answers
from choosersrow.errors import InvalidContext, OutOfRange, SizeMismatch, TooLarge
from choosersrow.sizes import all_contexts, is_context, is_small, require_same_outcomes, segments_of
from choosersrow.terms import is_below


def split_option(sizes, option, /):
    """Return the pair of the sizes for which the flat option stands."""
    if not is_below(option, sum(sizes)):
        raise OutOfRange("the number is not a flat option of the sizes")
    index = 0
    rest = option
    while rest >= sizes[index]:
        rest = rest - sizes[index]
        index += 1
    return (index, rest)


def join_option(sizes, pair, /):
    """Return the flat option that stands for the pair of the sizes."""
    index, rest = pair
    if not is_below(index, len(sizes)) or not is_below(rest, sizes[index]):
        raise OutOfRange("the tuple is not a pair of the sizes")
    return sum(sizes[:index]) + rest


def require_followed(first, nexts):
    """Return None if there is one chooser, or one aim, for each option of the first, with the same outcomes."""
    if len(nexts) != first.options:
        raise SizeMismatch("there is one for each option of the first")
    require_same_outcomes(first, nexts)


def require_small_behind(first, nexts):
    """Return None if what is put behind the first fits it and the size of the result is small."""
    require_followed(first, nexts)
    if not is_small(sum(option_counts(nexts)), first.outcomes):
        raise TooLarge("the size of the result is not small")


def option_counts(nexts):
    """Return the sizes: the numbers of options of the choosers or aims."""
    return tuple([each.options for each in nexts])


def context_segments(first, nexts, context):
    """Return the segments of a context with one outcome for each flat option."""
    sizes = option_counts(nexts)
    if not is_context(context, sum(sizes), first.outcomes):
        raise InvalidContext("the context is a tuple of one outcome for each flat option")
    return segments_of(sizes, context)


def put_behind(first, nexts):
    """Return the chooser on the flat options that has the other choosers behind the options of the first."""
    require_small_behind(first, nexts)
    return Chooser(sum(option_counts(nexts)), first.outcomes, row_behind(first, nexts))


def faced_context(first, nexts, context):
    """Return the context that the first chooser faces in a context with one outcome for each flat option."""
    require_followed(first, nexts)
    segments = context_segments(first, nexts, context)
    return answered_context(segments, segment_answers(nexts, segments))


def put_in_turn(first, *rest):
    """Return the product of the choosers, put together from the last one."""
    # Every number of outcomes is looked at before a product can be too large.
    require_same_outcomes(first, rest)
    choosers = [first, *rest]
    joined = choosers[-1]
    for chooser in choosers[-2::-1]:
        joined = chooser * joined
    return joined


def take_apart(chooser, sizes):
    """Return the first chooser and those with the sizes behind it that make up the chooser, or None."""
    if not all([size >= 1 for size in sizes]):
        raise OutOfRange("a size is at least 1")
    if sum(sizes) != chooser.options:
        raise SizeMismatch("the sizes do not add up to the options of the chooser")
    contexts = all_contexts(chooser.options, chooser.outcomes)
    pairs = {context: split_option(sizes, option) for context, option in zip(contexts, chooser.row)}
    first = first_part(pairs, sizes, chooser.outcomes)
    nexts = tuple([next_part(pairs, sizes, place, chooser.outcomes) for place in range(len(sizes))])
    # If no such pair makes up the chooser, this one does not do so either.
    return (first, nexts) if row_behind(first, nexts) == chooser.row else None


def first_part(pairs, sizes, outcomes):
    """Return the first chooser, given the pair that is picked in each context."""
    row = []
    for faced in all_contexts(len(sizes), outcomes):
        # If a segment has one outcome alone, the first chooser faces it whatever the answer is.
        context = tuple([outcome for outcome, size in zip(faced, sizes) for _ in range(size)])
        row.append(pairs[context][0])
    return Chooser(len(sizes), outcomes, tuple(row))


def next_part(pairs, sizes, place, outcomes):
    """Return the chooser behind one option of the first, given the pair that is picked in each context."""
    start = sum(sizes[:place])
    end = start + sizes[place]
    seen = {context[start:end]: pair[1] for context, pair in pairs.items() if pair[0] == place}
    row = []
    for segment in all_contexts(sizes[place], outcomes):
        row.append(seen[segment] if segment in seen else unseen_answer(pairs, start, segment))
    return Chooser(sizes[place], outcomes, tuple(row))


def unseen_answer(pairs, start, segment):
    """Return the least option that can be picked in a segment whose options are picked in no context."""
    end = start + len(segment)
    facing = [context for context in pairs if context[start:end] == segment]
    for answer, outcome in enumerate(segment):
        told = (outcome,) * len(segment)
        if all([pairs[context][0] == pairs[context[:start] + told + context[end:]][0] for context in facing]):
            return answer
    # No option can be picked, so the chooser cannot be taken apart, and take_apart finds that out.
    return 0
