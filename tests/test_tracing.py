"""Point 93: functions of rows turned into queries."""

import itertools

from choosersrow.errors import OutOfRange, TooLarge
from choosersrow.quantified import every_row, find_row
from choosersrow.queries import Query
from choosersrow.rows import Row
from choosersrow.settling import least_row, settle_query
from choosersrow.tracing import trace_query
from tests.helpers import Case
from tests.queryoracles import chain_term, drawn_queries, full_term, looks_in, query_form, row_form, starts, told

ZERO, ONE = ("tell", 0), ("tell", 1)


class Own(Exception):
    """An error of a function's own."""


def without_repeats(term, seen=()):
    """Return the term in which no place is looked at again on a way, but its entry is remembered."""
    known = dict(seen)
    if term[0] == "tell":
        return term
    if term[1] in known:
        return without_repeats(term[2 + known[term[1]]], seen)
    below = [without_repeats(part, seen + ((term[1], option),)) for option, part in enumerate(term[2:])]
    return term[:2] + tuple(below)


def traced(function, widths=(2,), outcomes=2):
    return trace_query(function, widths, outcomes).term


class TestTracing(Case):
    def test_order_of_looks(self):
        self.assertEqual(traced(lambda row: row[row[0] + 1]),
                         ("look", 0, ("look", 1, ZERO, ONE), ("look", 2, ZERO, ONE)))
        self.assertEqual(traced(lambda row: row[7] and row[3]), ("look", 7, ZERO, ("look", 3, ZERO, ONE)))
        self.assertEqual(traced(lambda row: row[3] and row[7]), ("look", 3, ZERO, ("look", 7, ZERO, ONE)))
        self.assertEqual(traced(lambda row: (row[5], 1)[1]), ("look", 5, ONE, ONE))
        self.assertEqual(traced(lambda row: 1), ONE)
        self.assertEqual(traced(lambda row: row[99]), ("look", 99, ZERO, ONE))

    def test_result(self):
        query = trace_query(lambda row: row[1], (2, 3), 4)
        self.assertIs(type(query), Query)
        self.assertEqual(query_form(query), (("look", 1, ZERO, ONE, ("tell", 2)), (2, 3), 4))
        self.assertEqual(self.asked(traced, lambda row: row[4]), ("look", 4, ZERO, ONE))

    def test_places_that_are_asked_for_again(self):
        def function(row):
            total = 0
            for place in (4, 2, 4, 2, 4, 9, 4):
                total += row[place]
            return total % 2
        self.assertEqual(traced(function), full_term((4, 2, 9), 2, lambda row: (4 * row[0] + 2 * row[1] + row[2]) % 2))

    def test_orders_that_depend_on_entries(self):
        def function(row):
            places = (0, 1, 2) if row[5] == 0 else (2, 1, 0)
            return int(all(row[place] == 1 for place in places))
        low = ("look", 0, ZERO, ("look", 1, ZERO, ("look", 2, ZERO, ONE)))
        high = ("look", 2, ZERO, ("look", 1, ZERO, ("look", 0, ZERO, ONE)))
        self.assertEqual(traced(function), ("look", 5, low, high))

    def test_queries_are_functions(self):
        for query in drawn_queries(40, 120):
            again = trace_query(query, query.widths, query.outcomes)
            self.assertEqual(again.term, without_repeats(query.term))
        query = Query(chain_term(20), (2,), 2)
        self.assertEqual(traced(query), ("look", 0, ONE, ZERO))

    def test_outcomes_of_all_starts(self):
        def function(row):
            place = 0
            for _ in range(4):
                place = (2 * place + row[place] + 1) % 5
            return place % 3
        for widths in [(2,), (2, 3), (3, 1, 2)]:
            query = trace_query(function, widths, 3)
            for start in starts(widths, 5):
                self.assertEqual(query(Row(start)), function(start))

    def test_wrong_numbers(self):
        calls = []
        for widths, outcomes in [((), 2), ((2,) * 7, 2), ((0,), 2), ((5,), 2), ((2, -1), 2), ((2,), 0), ((2,), 5),
                                 ((2,), -1), ([2], 2), ((), 9)]:
            self.refused(OutOfRange, trace_query, calls.append, widths, outcomes)
        self.assertEqual(calls, [])

    def test_numbers_that_are_no_outcomes(self):
        for told_number in (2, -1, 10 ** 20):
            self.refused(OutOfRange, trace_query, lambda row: told_number, (2,), 2)
            self.refused(OutOfRange, trace_query, lambda row: row[3] and told_number, (2,), 2)
        self.refused(OutOfRange, trace_query, lambda row: 1, (2,), 1)
        self.assertEqual(traced(lambda row: 3, (2,), 4), ("tell", 3))

    def test_places_on_a_way(self):
        for widths, many in [((1,), 20), ((1, 1, 1), 20)]:
            query = trace_query(lambda row: sum(row[place] for place in range(many)), widths, 2)
            self.assertEqual(looks_in(query.term), 20)
        self.refused(TooLarge, trace_query, lambda row: sum(row[place] for place in range(21)), (1,), 2)
        self.refused(TooLarge, trace_query, lambda row: sum(row[place] for place in range(100)), (1,), 2)
        # Asking again is no other place.
        query = trace_query(lambda row: sum(row[place % 20] for place in range(200)), (1,), 2)
        self.assertEqual(looks_in(query.term), 20)

    def test_only_one_way_with_too_many_places(self):
        def function(row):
            return sum(row[place] for place in range(2, 6 * row[0] + 19)) if row[0] else 0
        self.refused(TooLarge, trace_query, function, (2, 1, 1, 1, 1, 1), 2)
        self.assertEqual(traced(lambda row: 0 if row[0] == 0 else 0), ("look", 0, ZERO, ZERO))

    def test_too_many_looks_or_choices(self):
        self.assertEqual(looks_in(traced(lambda row: sum(row[place] for place in range(8)) % 2)), 255)
        self.refused(TooLarge, trace_query, lambda row: sum(row[place] for place in range(9)) % 2, (2,), 2)
        self.refused(TooLarge, trace_query, lambda row: sum(row[place] for place in range(20)) % 2, (4,), 2)
        self.refused(TooLarge, trace_query, lambda row: sum(row[place] for place in range(5)) % 2, (4,), 2)
        # Nine places in all, but at most six on a way.
        self.refused(TooLarge, trace_query, lambda row: sum(row[4 * row[0] + place] for place in range(1, 6)) % 2, (2,), 2)
        self.assertEqual(looks_in(traced(lambda row: sum(row[3 * row[0] + place] for place in range(1, 5)) % 2)), 31)

        def long_ways(row):
            # 256 ways, and on each of them some looks at places of width 1.
            return (sum(row[6 * place] for place in range(8)) + row[1] + row[2]) % 2
        self.refused(TooLarge, trace_query, long_ways, (2, 1, 1, 1, 1, 1), 2)

    def test_errors_of_the_function(self):
        def function(row):
            if row[2] == 1:
                raise Own("here")
            return 0
        with self.assertRaises(Own) as caught:
            trace_query(function, (2,), 2)
        self.assertEqual(caught.exception.args, ("here",))
        with self.assertRaises(ZeroDivisionError):
            trace_query(lambda row: 1 // row[0], (2,), 2)
        self.refused(OutOfRange, trace_query, Query(("look", 0, ZERO, ONE), (2,), 2), (3,), 2)

    def test_places_that_rows_are_not_asked_for(self):
        for place in (-1, 100, 10 ** 20):
            self.refused(OutOfRange, trace_query, lambda row: row[place], (2,), 2)

    def test_rows_have_no_end(self):
        with self.assertRaises(TypeError):
            trace_query(lambda row: int(1 in row), (2,), 2)


class TestSearchesWithin(Case):
    def test_other_rows(self):
        self.assertEqual(traced(lambda row: int(find_row(lambda other: other[3], (2,)) is not None) * row[1]),
                         ("look", 1, ZERO, ONE))
        self.assertEqual(traced(lambda row: row[0] if every_row(lambda other: 1, (2,)) else row[5]), ("look", 0, ZERO, ONE))
        self.assertEqual(traced(lambda row: least_row(trace_query(lambda other: other[2], (3,), 3), 2)[2] - 1, (2,), 2), ONE)

    def test_its_own_row(self):
        query = trace_query(lambda row: int(find_row(lambda other: int(other[0] == row[4]), (2,)) is not None), (2,), 2)
        self.assertEqual(settle_query(query).term, ONE)
        query = trace_query(lambda row: int(every_row(lambda other: int(other[0] != row[4]), (2,))), (2,), 2)
        self.assertEqual(settle_query(query).term, ZERO)
        query = trace_query(lambda row: find_row(lambda other: int(other[0] == row[4]), (2,))[0], (2,), 2)
        self.assertEqual(query.term, ("look", 4, ZERO, ONE))

    def test_its_own_row_alone(self):
        query = trace_query(lambda row: int(find_row(lambda other: row[6], (2,)) is not None), (2,), 2)
        self.assertEqual(query.term, ("look", 6, ZERO, ONE))
        query = trace_query(lambda row: trace_query(lambda other: row[row[0] + 1], (3,), 2)(Row((2,))), (2,), 2)
        self.assertEqual(query.term, ("look", 0, ("look", 1, ZERO, ONE), ("look", 2, ZERO, ONE)))

    def test_both_rows(self):
        def function(row):
            return int(find_row(lambda other: int(all(other[p] + row[p] == 1 for p in range(3)) and row[4] == 1), (2,))
                       is not None)
        query = trace_query(function, (2,), 2)
        for start in starts((2,), 5):
            self.assertEqual(query(Row(start)), start[4])

    def test_traced_terms_within(self):
        def function(row):
            inner = trace_query(lambda other: int(other[row[0]] == row[1]), (3,), 2)
            return sum(told(inner.term, start) for start in itertools.product(range(3), repeat=2)) % 2
        query = trace_query(function, (2, 3), 2)
        for start in starts((2, 3), 2):
            self.assertEqual(query(Row(start)), 1)

    def test_three_rows(self):
        def middle(row, other):
            return int(find_row(lambda third: int(third[0] == other[0] and third[1] == row[1] and third[2] != row[2]),
                                (2,)) is not None)
        query = trace_query(lambda row: int(every_row(lambda other: middle(row, other), (2,))), (2,), 2)
        self.assertEqual(settle_query(query).term, ONE)
        query = trace_query(lambda row: int(every_row(lambda other: middle(row, other) * row[3], (2,))), (2,), 2)
        self.assertEqual(settle_query(query).term, ("look", 3, ZERO, ONE))

    def test_a_row_of_a_row(self):
        def function(row):
            found = find_row(lambda other: int(other[0] == row[2] and other[3] == 1 - row[0]), (2,))
            return (found[0] + found[3]) % 2
        query = trace_query(function, (2,), 2)
        for start in starts((2,), 3):
            self.assertEqual(query(Row(start)), (start[2] + 1 - start[0]) % 2)

    def test_errors_within(self):
        self.refused(TooLarge, trace_query, lambda row: int(every_row(lambda other: sum(other[p] for p in range(21)), (1,))),
                     (2,), 2)
        self.refused(OutOfRange, trace_query, lambda row: int(every_row(lambda other: 1 + row[1], (2,))), (2,), 2)
        self.refused(OutOfRange, trace_query, lambda row: int(every_row(lambda other: 1, ())), (2,), 2)
        with self.assertRaises(Own):
            trace_query(lambda row: int(every_row(raising, (2,))) + row[0], (2,), 2)

    def test_found_rows_are_plain(self):
        row = find_row(lambda other: other[2], (2,))
        self.assertIs(type(row), Row)
        self.assertEqual(row_form(row), ((0, 0, 1), (0,)))


def raising(row):
    if row[1] == 1:
        raise Own("there")
    return 1
