"""Queries as games, and the rows to which choosers without end come."""

from choosersrow.aims import RANKS_END, wrong_numbers
from choosersrow.errors import OutOfRange
from choosersrow.games import PLAYERS, Game
from choosersrow.queries import terms_behind, width_at
from choosersrow.rows import Row
from choosersrow.settling import first_row, part_behind, path_to, query_reach, settled_term

MOST_CHOOSERS = 8
LONGEST_START = 100


def row_game(query, aims):
    """Return the game of the query in which the place of each look has its aim; the aims repeat."""
    if len(aims) == 0:
        raise OutOfRange("there is an aim")
    return Game(query.outcomes, row_tree(settled_term(query), aims))


def row_tree(term, aims):
    """Return the tree of a settled term."""
    if term[0] == "tell":
        return ("end", term[1])
    below = tuple([row_tree(part, aims) for part in terms_behind(term)])
    return ("node", term[1] % PLAYERS, aims[term[1] % len(aims)]) + below


def require_choosers(choosers):
    """Return None if there are 1 to 8 choosers."""
    if not 1 <= len(choosers) <= MOST_CHOOSERS:
        raise OutOfRange("there are 1 to 8 choosers")


def answer_at(choosers, place, context):
    """Return the option that the chooser of the place picks in the context; the choosers repeat."""
    chooser = choosers[place % len(choosers)]
    return chooser(context)


def chosen_outcome(term, choosers):
    """Return the outcome to which the choosers come in a settled term."""
    # At a place that is not looked at, the answer does not matter, as the context has one outcome alone.
    if term[0] == "tell":
        return term[1]
    context = tuple([chosen_outcome(part, choosers) for part in terms_behind(term)])
    return context[answer_at(choosers, term[1], context)]


def chosen_entries(query, choosers, length):
    """Return the first entries of the row to which the choosers come."""
    term = settled_term(query)
    entries = ()
    for place in range(length):
        parts = [part_behind(term, place, option) for option in range(width_at(query.widths, place))]
        answer = answer_at(choosers, place, tuple([chosen_outcome(part, choosers) for part in parts]))
        entries = entries + (answer,)
        term = parts[answer]
    return entries


def choose_row(query, choosers, length):
    """Return the tuple of the first entries of the row to which the choosers come."""
    require_choosers(choosers)
    if not 0 <= length <= LONGEST_START:
        raise OutOfRange("a length is from 0 to 100")
    return chosen_entries(query, choosers, length)


def row_by(query, choosers):
    """Return the row to which the choosers come."""
    require_choosers(choosers)
    reach = query_reach(query)
    # From the reach on all contexts are alike, so the entries repeat where both the widths and the choosers do.
    entries = chosen_entries(query, choosers, reach + len(query.widths) * len(choosers))
    return Row(entries[:reach], entries[reach:]).least()


def outcome_by(query, choosers):
    """Return the outcome of the query on the row to which the choosers come."""
    require_choosers(choosers)
    return chosen_outcome(settled_term(query), choosers)


def told_outcomes(term):
    """Return the list of the outcomes of all tells of a query term."""
    if term[0] == "tell":
        return [term[1]]
    return [outcome for below in terms_behind(term) for outcome in told_outcomes(below)]


def best_row(query, ranks):
    """Return the first row whose outcome has the greatest rank among the outcomes of all rows."""
    if wrong_numbers(ranks, query.outcomes, RANKS_END) is not None:
        raise OutOfRange("there is one rank from 0 to 9 for each outcome")
    term = settled_term(query)
    greatest = max([ranks[outcome] for outcome in told_outcomes(term)])
    best = [outcome for outcome in range(query.outcomes) if ranks[outcome] == greatest]
    return first_row(path_to(term, best))
