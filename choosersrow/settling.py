"""Settled queries: the places that they need, their first rows, and their heads."""

from choosersrow.errors import OutOfRange, TooLarge
from choosersrow.facing import ascending
from choosersrow.queries import ITEMS_BEFORE, Query, fixed_term, places_of, require_same_widths, terms_behind, width_at
from choosersrow.rows import Row
from choosersrow.sizes import require_same_outcomes
from choosersrow.terms import is_below
from choosersrow.turns import join_option, split_option
from choosersrow.walks import choice_at, choice_index, count_choices


def settled_term(query):
    """Return the settled term of the query."""
    return settled_part(query.term, query.widths)


def settled_part(term, widths):
    """Return the settled term for a query term with the widths."""
    if term[0] == "tell":
        return term
    place = min(places_of(term))
    options = range(width_at(widths, place))
    parts = tuple([settled_part(fixed_term(term, place, option), widths) for option in options])
    return parts[0] if parts == parts[:1] * len(parts) else ("look", place) + parts


def part_behind(term, place, option):
    """Return what is left of a settled term behind an option of the place, if it looks at no lesser place."""
    return term[ITEMS_BEFORE + option] if term[:ITEMS_BEFORE] == ("look", place) else term


def settle_query(query):
    """Return the query with the settled term."""
    return Query(settled_term(query), query.widths, query.outcomes)


def needed_places(query):
    """Return the places that the query needs, in ascending order."""
    return ascending(places_of(settled_term(query)))


def query_reach(query):
    """Return the greatest needed place plus 1, or 0 if no place is needed."""
    return term_reach(settled_term(query))


def term_reach(term):
    """Return the reach of a query with the settled term."""
    return max(places_of(term), default=-1) + 1


def path_to(term, outcomes):
    """Return the pairs of place and option on the first way through a settled term to an outcome of these, or None."""
    if term[0] == "tell":
        return () if term[1] in outcomes else None
    for option, below in enumerate(terms_behind(term)):
        path = path_to(below, outcomes)
        if path is not None:
            return ((term[1], option),) + path
    return None


def first_row(path):
    """Return the first row with the options at the places of a path, or None if there is no path."""
    if path is None:
        return None
    entries = {place: option for place, option in path}
    length = max(list(entries), default=-1) + 1
    return Row(tuple([entries.get(place, 0) for place in range(length)])).least()


def require_outcome(query, outcome):
    """Return None if the outcome is one of the query."""
    if not is_below(outcome, query.outcomes):
        raise OutOfRange("the number is not an outcome of the query")


def least_row(query, outcome):
    """Return the first row of the query with the outcome, or None."""
    require_outcome(query, outcome)
    return first_row(path_to(settled_term(query), (outcome,)))


def parting_row(first, second):
    """Return the first row that gets different outcomes from the two queries, or None."""
    require_same_widths(first, second)
    require_same_outcomes(first, (second,))
    terms = (settled_term(first), settled_term(second))
    needed = ascending([place for term in terms for place in places_of(term)])
    if count_choices([width_at(first.widths, place) for place in needed]) > Query.MOST_CHOICES:
        raise TooLarge("the widths of the needed places multiply to more than 256")
    return first_row(parting_path(terms, needed, first.widths))


def parting_path(terms, needed, widths):
    """Return the pairs of place and option on the first way that parts two settled terms, or None.

    The terms look at no places but the needed ones.
    """
    if terms[0] == terms[1]:
        return None
    if len(needed) == 0:
        return ()
    place = needed[0]
    for option in range(width_at(widths, place)):
        parts = tuple([part_behind(term, place, option) for term in terms])
        path = parting_path(parts, needed[1:], widths)
        if path is not None:
            return ((place, option),) + path
    return None


def span_widths(widths, start, end):
    """Return the widths of the places from the start to the one before the end."""
    return tuple([width_at(widths, place) for place in range(start, end)])


def free_widths(query, term, start, reach):
    """Return the widths of the places from the start on that come before the first look of a settled term."""
    return span_widths(query.widths, start, reach if term[0] == "tell" else term[1])


def tail_counts(query, term, start, reach):
    """Return for each outcome the number of tails, from the start to the reach, with which a settled term tells it."""
    if term[0] == "tell":
        counts = [1 if outcome == term[1] else 0 for outcome in range(query.outcomes)]
    else:
        parts = [tail_counts(query, below, term[1] + 1, reach) for below in terms_behind(term)]
        counts = [sum([part[outcome] for part in parts]) for outcome in range(query.outcomes)]
    free = count_choices(free_widths(query, term, start, reach))
    return tuple([free * count for count in counts])


def counts_behind(query, term, reach, outcome):
    """Return for each option of a look the number of tails behind it with which its query term tells the outcome."""
    return [tail_counts(query, below, term[1] + 1, reach)[outcome] for below in terms_behind(term)]


def count_heads(query):
    """Return for each outcome the number of heads with the outcome."""
    term = settled_term(query)
    return tail_counts(query, term, 0, term_reach(term))


def head_at(query, outcome, index):
    """Return the head with the index among the heads with the outcome."""
    require_outcome(query, outcome)
    if not 0 <= index < count_heads(query)[outcome]:
        raise OutOfRange("no head with the outcome has this index")
    term = settled_term(query)
    reach = term_reach(term)
    head = ()
    rest = index
    while term[0] == "look":
        counts = counts_behind(query, term, reach, outcome)
        free, rest = divmod(rest, sum(counts))
        option, rest = split_option(counts, rest)
        head = head + choice_at(free_widths(query, term, len(head), reach), free) + (option,)
        term = term[ITEMS_BEFORE + option]
    return head + choice_at(free_widths(query, term, len(head), reach), rest)


def head_index(query, head):
    """Return the index of the head among the heads with the same outcome."""
    term = settled_term(query)
    reach = term_reach(term)
    # A tuple that is not a head has no index among all heads either.
    choice_index(span_widths(query.widths, 0, reach), head)
    return tail_index(query, term, reach, head, 0)[1]


def tail_index(query, term, reach, head, start):
    """Return the outcome of a head, and the index of its tail from the start on among those that come to it."""
    widths = free_widths(query, term, start, reach)
    end = start + len(widths)
    free = choice_index(widths, head[start:end])
    if term[0] == "tell":
        return (term[1], free)
    option = head[end]
    outcome, rest = tail_index(query, term[ITEMS_BEFORE + option], reach, head, end + 1)
    counts = counts_behind(query, term, reach, outcome)
    return (outcome, free * sum(counts) + join_option(counts, (option, rest)))
