"""Points 88 to 91: settled terms, needed places, and first rows."""

import random

from choosersrow.errors import OutOfRange, SizeMismatch, TooLarge
from choosersrow.queries import Query
from choosersrow.rows import Row
from choosersrow.settling import least_row, needed_places, parting_row, query_reach, settle_query
from tests.helpers import Case
from tests.queryoracles import (all_starts, chain_term, drawn_queries, drawn_query_term, full_term, is_settled, looks_in,
                                named, query_form, row_form, row_with, starts, table_of, told, told_needed, told_reach)

ZERO, ONE = ("tell", 0), ("tell", 1)


def shuffled(source, places, tell, entries=()):
    """Return a term that looks at the places in an order drawn anew behind each option, and at some of them again."""
    if not places:
        return ("tell", tell(dict(entries)))
    place = source.choice(places)
    rest = [other for other in places if other != place]
    below = [shuffled(source, rest, tell, entries + ((place, option),)) for option in range(2)]
    if source.random() < 0.3:
        below[0] = ("look", place, below[0], ONE)
    return ("look", place) + tuple(below)


class TestSettling(Case):
    def test_settled_terms(self):
        for query in drawn_queries(20, 250):
            settled = settle_query(query)
            self.assertIs(type(settled), Query)
            self.assertEqual((settled.widths, settled.outcomes), (query.widths, query.outcomes))
            self.assertTrue(is_settled(settled.term), settled.term)
            for start in all_starts(query):
                self.assertEqual(told(settled.term, start), told(query.term, start))
            self.assertEqual(settle_query(settled).term, settled.term)

    def test_by_hand(self):
        for term, told_term in [(ONE, ONE), (("look", 5, ONE, ONE), ONE), (("look", 5, ONE, ZERO), ("look", 5, ONE, ZERO)),
                                (("look", 2, ("look", 2, ONE, ZERO), ("look", 2, ONE, ZERO)), ("look", 2, ONE, ZERO)),
                                (("look", 3, ("look", 1, ONE, ZERO), ("look", 1, ZERO, ONE)),
                                 ("look", 1, ("look", 3, ONE, ZERO), ("look", 3, ZERO, ONE))),
                                (("look", 3, ("look", 1, ONE, ZERO), ("look", 1, ONE, ZERO)), ("look", 1, ONE, ZERO)),
                                (("look", 0, ("look", 1, ONE, ONE), ("look", 2, ONE, ONE)), ONE)]:
            query = Query(term, (2,), 2)
            self.assertEqual(settle_query(query).term, told_term)
            self.assertEqual(query.term, term)

    def test_places_of_width_one(self):
        self.assertEqual(settle_query(Query(chain_term(20, 7, 1), (1,), 2)).term, ONE)
        term = ("look", 0, ("look", 1, ("look", 2, ONE), ("look", 2, ZERO)))
        self.assertEqual(settle_query(Query(term, (1, 2, 1), 2)).term, ("look", 1, ONE, ZERO))

    def test_agreeing_queries_settle_alike(self):
        source = random.Random(21)
        for _ in range(60):
            outcomes = {place: source.randrange(2) for place in range(32)}
            places = [0, 3, 4, 9, 70]

            def tell(entries):
                return outcomes[sum(entries[place] << index for index, place in enumerate(places))]

            terms = {settle_query(Query(shuffled(source, places, tell), (2,), 2)).term for _ in range(4)}
            terms.add(settle_query(Query(full_term(places, 2, lambda row: tell(dict(zip(places, row)))), (2,), 2)).term)
            self.assertEqual(len(terms), 1)

    def test_equal_exactly_if_they_agree(self):
        source = random.Random(22)
        widths = (2, 3)
        queries = [Query(drawn_query_term(source, widths, 2, range(3), 2), widths, 2) for _ in range(60)]
        for one in queries:
            for other in queries:
                self.assertEqual(settle_query(one).term == settle_query(other).term, table_of(one, 3) == table_of(other, 3))

    def test_greatest_settled_terms(self):
        source = random.Random(23)
        term = full_term(range(8), 2, lambda row: source.randrange(2))
        settled = settle_query(Query(term, (2,), 2)).term
        self.assertTrue(is_settled(settled))
        self.assertEqual([told(settled, start) for start in starts((2,), 8)],
                         [told(term, start) for start in starts((2,), 8)])
        self.assertEqual(looks_in(settle_query(Query(full_term(range(8)), (2,), 2)).term), 255)

    def test_many_places_of_width_one(self):
        # The places that are no multiples of six have width 1, so many of them may be named.
        widths = (2, 1, 1, 1, 1, 1)

        def narrow(first, tail):
            for place in range(first, first + 14):
                tail = tail if place % 6 == 0 else ("look", place, tail)
            return tail

        term = ("look", 0, narrow(1, ("look", 6, ONE, ZERO)), narrow(40, ("look", 6, ONE, ZERO)))
        self.assertEqual(settle_query(Query(term, widths, 2)).term, ("look", 6, ONE, ZERO))


class TestNeededPlaces(Case):
    def test_drawn_queries(self):
        for query in drawn_queries(24, 200):
            self.assertEqual(self.asked(needed_places, query), told_needed(query))
            self.assertEqual(self.asked(query_reach, query), told_reach(query))
            self.assertEqual(needed_places(query), tuple(sorted(named(settle_query(query).term))))

    def test_by_hand(self):
        for term, needed, reach in [(ONE, (), 0), (("look", 99, ONE, ONE), (), 0), (("look", 99, ONE, ZERO), (99,), 100),
                                    (("look", 0, ONE, ZERO), (0,), 1),
                                    (("look", 50, ("look", 7, ONE, ZERO), ("look", 7, ONE, ZERO)), (7,), 8),
                                    (("look", 4, ("look", 2, ONE, ZERO), ("look", 3, ONE, ONE)), (2, 4), 5)]:
            query = Query(term, (2,), 2)
            self.assertEqual(needed_places(query), needed)
            self.assertEqual(query_reach(query), reach)


class TestLeastRow(Case):
    def least(self, query, outcome):
        """Return the form of the least row, by all starts in ascending order."""
        found = [start for start in all_starts(query) if told(query.term, start) == outcome]
        return row_with(found[0] if found else None)

    def test_drawn_queries(self):
        for query in drawn_queries(25, 200):
            for outcome in range(query.outcomes):
                row = least_row(query, outcome)
                self.assertEqual(row_form(row), self.least(query, outcome))
                if row is not None:
                    self.assertIs(type(row), Row)
                    self.assertEqual(query(row), outcome)

    def test_by_hand(self):
        query = Query(("look", 99, ("look", 3, ONE, ZERO), ("look", 1, ("tell", 2), ONE)), (2,), 4)
        for outcome, form in [(0, ((0, 0, 0, 1), (0,))), (1, ((), (0,))), (2, ((0,) * 99 + (1,), (0,))), (3, None)]:
            self.assertEqual(row_form(least_row(query, outcome)), form)

    def test_outcomes_that_no_row_gets(self):
        query = Query(("look", 0, ("look", 0, ONE, ZERO), ("look", 0, ZERO, ONE)), (2,), 3)
        self.assertIsNone(self.asked(least_row, query, 0))
        self.assertIsNone(self.asked(least_row, query, 2))
        self.assertEqual(row_form(least_row(query, 1)), ((), (0,)))

    def test_wrong_outcomes(self):
        for outcomes in (1, 2, 3, 4):
            for outcome in (-1, outcomes, 10 ** 20):
                self.refused(OutOfRange, least_row, Query(ZERO, (2,), outcomes), outcome)


class TestPartingRow(Case):
    def parting(self, first, second):
        length = 1 + max(named(first.term) | named(second.term), default=-1)
        found = [start for start in starts(first.widths, length) if told(first.term, start) != told(second.term, start)]
        return row_with(found[0] if found else None)

    def test_drawn_queries(self):
        source = random.Random(26)
        for first in drawn_queries(26, 150):
            for term in [first.term, drawn_query_term(source, first.widths, first.outcomes, range(5), 3)]:
                second = Query(term, first.widths, first.outcomes)
                row = parting_row(first, second)
                self.assertEqual(row_form(row), self.parting(first, second))
                self.assertEqual(row_form(parting_row(second, first)), row_form(row))
                if row is not None:
                    self.assertNotEqual(first(row), second(row))

    def test_by_hand(self):
        first, second = Query(("look", 4, ZERO, ONE), (2,), 2), Query(("look", 2, ZERO, ONE), (2,), 2)
        self.assertEqual(row_form(parting_row(first, second)), ((0, 0, 0, 0, 1), (0,)))
        self.assertEqual(row_form(parting_row(first, Query(ONE, (2,), 2))), ((), (0,)))
        self.assertEqual(row_form(parting_row(first, Query(ZERO, (2,), 2))), ((0, 0, 0, 0, 1), (0,)))
        self.assertEqual(row_form(parting_row(~first, second)), ((), (0,)))
        self.assertIsNone(self.asked(parting_row, first, Query(("look", 4, ZERO, ONE), (2,), 2)))
        self.assertIsNone(self.asked(parting_row, Query(ONE, (3,), 2), Query(("look", 9, ONE, ONE, ONE), (3,), 2)))

    def test_sizes(self):
        for one, other in [(((2,), 2), ((2, 2), 2)), (((2, 3), 2), ((3, 2), 2)), (((2,), 2), ((2,), 3)),
                           (((1,), 1), ((1,), 4)), (((1,), 1), ((2,), 4))]:
            self.refused(SizeMismatch, parting_row, Query(ZERO, *one), Query(ZERO, *other))

    def test_sizes_come_first(self):
        first = Query(full_term(range(5)), (2,), 2)
        self.refused(SizeMismatch, parting_row, first, Query(full_term(range(5, 9)), (2,), 3))
        self.refused(SizeMismatch, parting_row, first, Query(full_term(range(5, 9)), (2, 2), 2))

    def test_products(self):
        first = Query(full_term(range(5)), (2,), 2)
        for places in [range(5, 8), (0, 1, 2, 5, 6, 7), range(3, 8)]:
            second = Query(full_term(places), (2,), 2)
            self.assertEqual(row_form(parting_row(first, second)), self.parting(first, second))
        for places in [range(5, 9), range(20, 28), (0, 5, 6, 7, 8)]:
            self.refused(TooLarge, parting_row, first, Query(full_term(places), (2,), 2))
            self.refused(TooLarge, parting_row, Query(full_term(places), (2,), 2), first)

    def test_products_of_needed_places_only(self):
        first = Query(full_term(range(5)), (2,), 2)
        # The other places are named, but not needed.
        unneeded = full_term(range(5, 12), 2, lambda row: row[0])
        self.assertEqual(row_form(parting_row(first, Query(unneeded, (2,), 2))), ((0, 0, 0, 0, 0, 1), (0,)))
        wide = Query(full_term(range(4), 4, lambda row: sum(row) % 2), (4,), 2)
        self.assertEqual(row_form(parting_row(wide, Query(ZERO, (4,), 2))), ((0, 0, 0, 1), (0,)))
        self.refused(TooLarge, parting_row, wide, Query(("look", 4, ZERO, ONE, ZERO, ZERO), (4,), 2))

    def test_forms_stay(self):
        first = Query(("look", 4, ZERO, ONE), (2,), 2)
        form = query_form(first)
        parting_row(first, ~first)
        least_row(first, 1)
        self.assertEqual(query_form(first), form)
