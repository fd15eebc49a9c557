"""Functions of rows, turned into queries."""

from choosersrow.errors import ChoosersError, OutOfRange, TooLarge
from choosersrow.queries import PLACES, Query, require_few, require_form, width_at
from choosersrow.terms import is_below


class PlaceAsked(ChoosersError):
    """A function asks a row for an entry that it has not seen; trace_query catches it."""

    def __init__(self, row, place):
        super().__init__(f"the entry at place {place} is asked for")
        self.row = row
        self.place = place


class SeenRow:
    """A row of which only the entries at some places are known."""

    def __init__(self, entries):
        self.entries = entries

    def __getitem__(self, at):
        if not is_below(at, PLACES):
            raise OutOfRange("a place is from 0 to 99")
        if at not in self.entries:
            raise PlaceAsked(self, at)
        return self.entries[at]

    def __iter__(self):
        raise TypeError("a row has no end")


def next_step(function, entries):
    """Return the place that the function asks for behind these entries and None, or None and what it returns."""
    row = SeenRow(entries)
    try:
        return (None, function(row))
    except PlaceAsked as error:
        if error.row is row:
            return (error.place, None)
        # A function within a function asks the row of the outer one, whose search goes on with this.
        raise


def traced_term(function, widths, outcomes, entries, places):
    """Return the query term of the function behind these entries, and the places of its looks behind those before."""
    place, outcome = next_step(function, entries)
    if place is None:
        if not is_below(outcome, outcomes):
            raise OutOfRange("the function returns an outcome")
        return (("tell", outcome), places)
    if len(entries) == Query.MOST_LEVELS:
        raise TooLarge("a function asks for at most 20 different places on a way")
    # The looks are counted as they are found, as there can be far too many ways to go them all.
    places = places + [place]
    require_few(places, widths)
    term = ("look", place)
    for option in range(width_at(widths, place)):
        part, places = traced_term(function, widths, outcomes, {**entries, place: option}, places)
        term = term + (part,)
    return (term, places)


def trace_query(function, widths, outcomes):
    """Return the query with the looks of the function, in the order in which it asks."""
    require_form(widths, outcomes)
    term, _ = traced_term(function, widths, outcomes, {}, [])
    return Query(term, widths, outcomes)
