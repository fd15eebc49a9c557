"""The words of the document about queries said once more over heads, so that the tests do not lean on the program."""

import itertools
import random

from choosersrow.queries import Query


def width(widths, place):
    return widths[place % len(widths)]


def told(term, entries):
    """Return the outcome of a row that begins with the entries and goes on with 0."""
    while term[0] == "look":
        term = term[2 + (entries[term[1]] if term[1] < len(entries) else 0)]
    return term[1]


def named(term):
    """Return the set of the places that the term names."""
    return set() if term[0] == "tell" else {term[1]}.union(*[named(below) for below in term[2:]])


def looks_in(term):
    return 0 if term[0] == "tell" else 1 + sum(looks_in(below) for below in term[2:])


def span(query):
    """Return the greatest place that the term of the query names plus 1, or 0."""
    return max(named(query.term), default=-1) + 1


def starts(widths, length):
    """Return the starts of so many options in ascending order."""
    return list(itertools.product(*[range(width(widths, place)) for place in range(length)]))


def all_starts(query, more=0):
    return starts(query.widths, span(query) + more)


def table_of(query, length):
    """Return the outcomes of all starts of so many options."""
    return [told(query.term, start) for start in starts(query.widths, length)]


def told_needed(query):
    """Return the needed places: two starts that differ there only get different outcomes."""
    found = set()
    for start in all_starts(query):
        for place in range(len(start)):
            for option in range(width(query.widths, place)):
                other = start[:place] + (option,) + start[place + 1:]
                if told(query.term, other) != told(query.term, start):
                    found.add(place)
    return tuple(sorted(found))


def told_reach(query):
    return max(told_needed(query), default=-1) + 1


def told_heads(query):
    """Return the heads with each outcome."""
    heads = starts(query.widths, told_reach(query))
    return [[head for head in heads if told(query.term, head) == outcome] for outcome in range(query.outcomes)]


def is_settled(term):
    """Return whether the term is settled, by the words of point 88."""
    if term[0] == "tell":
        return True
    below = term[2:]
    return (all(is_settled(part) for part in below) and any(part != below[0] for part in below)
            and all(place > term[1] for part in below for place in named(part)))


def row_form(row):
    return None if row is None else (row.head, row.cycle)


def row_with(start):
    """Return the form of the least row that begins with the start and goes on with 0, or None."""
    if start is None:
        return None
    while start and start[-1] == 0:
        start = start[:-1]
    return (start, (0,))


def query_form(query):
    return (query.term, query.widths, query.outcomes)


def drawn_query_term(source, widths, outcomes, places, depth):
    """Return a query term drawn from the random source that looks at some of the places, at most so deep."""
    if depth == 0 or source.random() < 0.2:
        return ("tell", source.randrange(outcomes))
    place = source.choice(places)
    below = [drawn_query_term(source, widths, outcomes, places, depth - 1) for _ in range(width(widths, place))]
    return ("look", place) + tuple(below)


def drawn_widths(source, most=3):
    return tuple(source.randrange(1, most + 1) for _ in range(source.randrange(1, 5)))


def drawn_queries(seed, many, outcomes=None, most=5):
    """Return queries whose places are below the number, among them queries that tell at once."""
    source = random.Random(seed)
    found = []
    if outcomes in (None, 2):
        found = [Query(("tell", 1), (2, 3), 2), Query(("look", 0, ("tell", 0), ("tell", 1)), (2,), 2)]
    while len(found) < many:
        widths = drawn_widths(source)
        number = outcomes or source.randrange(1, 5)
        term = drawn_query_term(source, widths, number, range(most), source.randrange(6))
        if looks_in(term) <= 60:
            found.append(Query(term, widths, number))
    return found


def chain_term(looks, place=0, wide=2, tail=("tell", 1)):
    """Return a term of so many looks, one inside another, all at one place."""
    for _ in range(looks):
        tail = ("look", place, tail) + (("tell", 0),) * (wide - 1)
    return tail


def full_term(places, wide=2, tell=lambda entries: sum(entries) % 2, entries=()):
    """Return a term that looks at all of the places."""
    if not places:
        return ("tell", tell(entries))
    return ("look", places[0]) + tuple(full_term(places[1:], wide, tell, entries + (option,)) for option in range(wide))
