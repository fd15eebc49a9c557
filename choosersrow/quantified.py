"""Whether queries hold for some or for every row."""

from choosersrow.errors import OutOfRange
from choosersrow.queries import TWO_OUTCOMES, require_two_outcomes, terms_behind
from choosersrow.settling import least_row, settled_term
from choosersrow.tracing import trace_query

WORDS = ("some", "every")


def quantified_truth(query, words):
    """Return whether the outcome is 1 for some or for every option of each place, as the words say."""
    require_two_outcomes(query)
    if len(words) == 0 or not all([word in WORDS for word in words]):
        raise OutOfRange("the words are some and every")
    return holds(settled_term(query), words)


def holds(term, words):
    """Return whether a settled term comes to 1 for some or for every option of each place, as the words say."""
    # Where the term does not look at a place, some option is as good as every option.
    if term[0] == "tell":
        return term[1] == 1
    parts = [holds(below, words) for below in terms_behind(term)]
    return any(parts) if words[term[1] % len(words)] == "some" else all(parts)


def find_row(function, widths):
    """Return the first row for which the function returns 1, or None."""
    return least_row(trace_query(function, widths, TWO_OUTCOMES), 1)


def every_row(function, widths):
    """Return whether the function returns 1 for all rows."""
    return least_row(trace_query(function, widths, TWO_OUTCOMES), 0) is None
