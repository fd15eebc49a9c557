"""Queries: questions about rows, which look at some of their places."""

from choosersrow.aims import wrong_numbers
from choosersrow.errors import InvalidQuery, InvalidTerm, OutOfRange, SizeMismatch, TooLarge
from choosersrow.sizes import has_outcomes
from choosersrow.terms import is_below, is_number, read_headed, write_term
from choosersrow.walks import count_choices

MOST_WIDTHS = 6
WIDEST = 4
PLACES = 100
# In the term of a look, this many items stand before its query terms.
ITEMS_BEFORE = 2
TWO_OUTCOMES = 2


def width_at(widths, place):
    """Return the width of the place; the widths repeat."""
    return widths[place % len(widths)]


def terms_behind(term):
    """Return the query terms of a look; a tell has none."""
    return term[ITEMS_BEFORE:]


def are_widths(widths):
    """Return whether the value is a tuple of 1 to 6 numbers from 1 to 4."""
    if not isinstance(widths, tuple) or not 1 <= len(widths) <= MOST_WIDTHS:
        return False
    return all([is_number(width) and 1 <= width <= WIDEST for width in widths])


def require_form(widths, outcomes):
    """Return None if there are queries with the widths and so many outcomes."""
    if not has_outcomes(outcomes) or not are_widths(widths):
        raise OutOfRange("a query has 1 to 4 outcomes and 1 to 6 widths from 1 to 4")


def has_query_form(term, widths, level):
    """Return whether a query term inside so many looks is not wrong itself, whatever its items are."""
    if not isinstance(term, tuple) or len(term) == 0:
        return False
    if term[0] == "tell":
        return len(term) == 2
    if term[0] != "look" or len(term) <= ITEMS_BEFORE or level >= Query.MOST_LEVELS:
        return False
    # If the place is wrong, any number of items will do, as no number is due.
    return not is_below(term[1], PLACES) or len(terms_behind(term)) == width_at(widths, term[1])


def wrong_query(term, widths, outcomes, level):
    """Return the path of the first wrong part of a query term inside so many looks, or None."""
    if not has_query_form(term, widths, level):
        return ()
    if term[0] == "tell":
        return None if is_below(term[1], outcomes) else (1,)
    if not is_below(term[1], PLACES):
        return (1,)
    for index, below in enumerate(terms_behind(term), start=ITEMS_BEFORE):
        path = wrong_query(below, widths, outcomes, level + 1)
        if path is not None:
            return (index,) + path
    return None


def places_of(term):
    """Return the list of the places of all looks of a query term, each as often as it occurs."""
    if term[0] == "tell":
        return []
    return [term[1]] + [place for below in terms_behind(term) for place in places_of(below)]


def require_few(places, widths):
    """Return None if the looks of a query can be at these places, each as often as it stands there."""
    if len(places) > Query.MOST_LOOKS:
        raise TooLarge("a query has at most 300 looks")
    if count_choices([width_at(widths, place) for place in sorted(set(places))]) > Query.MOST_CHOICES:
        raise TooLarge("the widths of the places of a query multiply to at most 256")


def followed(query, row):
    """Return the places at which the query looks in the row, and the outcome that it tells."""
    places = ()
    term = query.term
    while term[0] == "look":
        entry = row[term[1]]
        if not is_below(entry, width_at(query.widths, term[1])):
            raise OutOfRange("an entry of the row is not an option of its place")
        places = places + (term[1],)
        term = term[ITEMS_BEFORE + entry]
    return (places, term[1])


def looked_places(query, row):
    """Return the places at which the query looks in the row, in the order of the looks."""
    return followed(query, row)[0]


def fixed_term(term, place, option):
    """Return the query term in which each look at the place is replaced by its query term of the option."""
    if term[0] == "tell":
        return term
    if term[1] == place:
        return fixed_term(term[ITEMS_BEFORE + option], place, option)
    return term[:ITEMS_BEFORE] + tuple([fixed_term(below, place, option) for below in terms_behind(term)])


def lowered_term(term):
    """Return the query term in which each place is less by one."""
    if term[0] == "tell":
        return term
    return ("look", term[1] - 1) + tuple([lowered_term(below) for below in terms_behind(term)])


def fix_place(query, place, option):
    """Return the query that takes the entry at the place for the option."""
    if not is_below(place, PLACES) or not is_below(option, width_at(query.widths, place)):
        raise OutOfRange("a place is from 0 to 99, and the option is one of it")
    return Query(fixed_term(query.term, place, option), query.widths, query.outcomes)


def query_tail(query, option):
    """Return the query about the rest of a row behind the entry at place 0."""
    fixed = fix_place(query, 0, option)
    return Query(lowered_term(fixed.term), query.widths[1:] + query.widths[:1], query.outcomes)


def term_with_tells(term, terms):
    """Return the query term with other terms in the places of its tells, one for each outcome."""
    if term[0] == "tell":
        return terms[term[1]]
    return term[:ITEMS_BEFORE] + tuple([term_with_tells(below, terms) for below in terms_behind(term)])


def term_with_outcomes(term, outcomes):
    """Return the query term with other outcomes in its tells, one for each outcome."""
    return term_with_tells(term, tuple([("tell", outcome) for outcome in outcomes]))


def require_same_widths(first, second):
    """Return None if the two queries have the same widths."""
    if first.widths != second.widths:
        raise SizeMismatch("the widths differ")


def require_two_outcomes(query):
    """Return None if the query has two outcomes."""
    if query.outcomes != TWO_OUTCOMES:
        raise SizeMismatch("the query does not have two outcomes")


def require_combined(first, second):
    """Return None if an operator can combine the two queries."""
    require_two_outcomes(first)
    require_two_outcomes(second)
    require_same_widths(first, second)


def join_queries(first, second, table, outcomes):
    """Return the query that tells the entry of the table for what the two queries tell."""
    require_same_widths(first, second)
    if not has_outcomes(outcomes) or len(table) != first.outcomes:
        raise OutOfRange("there are 1 to 4 outcomes, and a tuple for each outcome of the first query")
    for entries in table:
        if wrong_numbers(entries, second.outcomes, outcomes) is not None:
            raise OutOfRange("a tuple of the table has one outcome for each outcome of the second query")
    terms = tuple([term_with_outcomes(second.term, entries) for entries in table])
    return Query(term_with_tells(first.term, terms), first.widths, outcomes)


class Query:
    """A query: a query term, the widths of the places, and a number of outcomes."""

    MOST_LOOKS = 300
    MOST_LEVELS = 20
    MOST_CHOICES = 256

    def __init__(self, term, widths, outcomes):
        require_form(widths, outcomes)
        path = wrong_query(term, widths, outcomes, 0)
        if path is not None:
            raise InvalidQuery(path)
        require_few(places_of(term), widths)
        self.term = term
        self.widths = widths
        self.outcomes = outcomes

    def __call__(self, row):
        return followed(self, row)[1]

    def __invert__(self):
        require_two_outcomes(self)
        return Query(term_with_outcomes(self.term, (1, 0)), self.widths, self.outcomes)

    def __and__(self, other):
        require_combined(self, other)
        return Query(term_with_tells(self.term, (("tell", 0), other.term)), self.widths, self.outcomes)

    def __or__(self, other):
        require_combined(self, other)
        return Query(term_with_tells(self.term, (other.term, ("tell", 1))), self.widths, self.outcomes)

    def __xor__(self, other):
        require_combined(self, other)
        turned = term_with_outcomes(other.term, (1, 0))
        return Query(term_with_tells(self.term, (other.term, turned)), self.widths, self.outcomes)

    def text(self):
        """Return the text of the query."""
        return write_term(("query", self.outcomes, self.widths, self.term))

    @staticmethod
    def read(text):
        """Return the query with the text."""
        term = read_headed(text, "query", 4, 1)
        if not isinstance(term[2], tuple):
            raise InvalidTerm(())
        return Query(term[3], term[2], term[1])
