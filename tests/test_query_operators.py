"""Point 87: the operators of queries and join_queries."""

import itertools
import random

from choosersrow.errors import InvalidQuery, OutOfRange, SizeMismatch, TooLarge
from choosersrow.queries import Query, join_queries
from choosersrow.rows import Row
from tests.helpers import Case
from tests.queryoracles import (chain_term, drawn_queries, drawn_query_term, full_term, looks_in, query_form, starts,
                                told)

ZERO, ONE = ("tell", 0), ("tell", 1)
A = ("look", 1, ZERO, ("look", 0, ONE, ZERO))
B = ("look", 3, ONE, ZERO)
NOT_B = ("look", 3, ZERO, ONE)
OPERATORS = [lambda a, b: a & b, lambda a, b: a | b, lambda a, b: a ^ b]


def two(term, widths=(2,)):
    return Query(term, widths, 2)


def drawn_pairs(seed, many, outcomes=(2, 2)):
    """Return pairs of queries with equal widths and these numbers of outcomes."""
    source = random.Random(seed)
    found = []
    while len(found) < many:
        first = drawn_queries(source.randrange(10 ** 6), 3, outcomes[0], 4)[2]
        term = drawn_query_term(source, first.widths, outcomes[1], range(4), 3)
        if looks_in(first.term) * looks_in(term) <= 90:
            found.append((first, Query(term, first.widths, outcomes[1])))
    return found


def told_joined(first, second, table):
    """Return the term of the joined query, by the words of point 87."""
    if first[0] == "look":
        return first[:2] + tuple(told_joined(below, second, table) for below in first[2:])
    if second[0] == "look":
        return second[:2] + tuple(told_joined(first, below, table) for below in second[2:])
    return ("tell", table[first[1]][second[1]])


class TestOperators(Case):
    def test_terms_by_hand(self):
        self.assertEqual((~two(A)).term, ("look", 1, ONE, ("look", 0, ZERO, ONE)))
        self.assertEqual((two(A) & two(B)).term, ("look", 1, ZERO, ("look", 0, B, ZERO)))
        self.assertEqual((two(A) | two(B)).term, ("look", 1, B, ("look", 0, ONE, B)))
        self.assertEqual((two(A) ^ two(B)).term, ("look", 1, B, ("look", 0, NOT_B, B)))
        self.assertEqual((two(ONE) & two(B)).term, B)
        self.assertEqual((two(ZERO) & two(B)).term, ZERO)
        self.assertEqual((two(ONE) | two(B)).term, ONE)
        self.assertEqual((two(ZERO) ^ two(B)).term, B)
        self.assertEqual((two(ONE) ^ two(B)).term, NOT_B)

    def test_outcomes(self):
        for first, second in drawn_pairs(10, 60):
            self.assertEqual((~first).widths, first.widths)
            results = [(first & second, min), (first | second, max), (first ^ second, lambda pair: pair[0] ^ pair[1])]
            for start in starts(first.widths, 4):
                pair = (told(first.term, start), told(second.term, start))
                self.assertEqual((~first)(Row(start)), 1 - pair[0])
                for result, rule in results:
                    self.assertIs(type(result), Query)
                    self.assertEqual((result.widths, result.outcomes), (first.widths, 2))
                    self.assertEqual(result(Row(start)), rule(pair))

    def test_arguments_stay(self):
        first, second = two(A), two(B)
        for operator in OPERATORS:
            self.assertEqual(operator(first, second).term, operator(first, second).term)
        self.assertEqual(query_form(first), (A, (2,), 2))
        self.assertEqual(query_form(second), (B, (2,), 2))

    def test_unlike_widths(self):
        for one, other in [((2,), (2, 2)), ((2, 3), (3, 2)), ((1,), (2,)), ((2, 2, 2), (2,))]:
            for operator in OPERATORS:
                self.refused(SizeMismatch, operator, two(ONE, one), two(ZERO, other))

    def test_other_numbers_of_outcomes(self):
        for outcomes in (1, 3, 4):
            query = Query(ZERO, (2,), outcomes)
            self.refused(SizeMismatch, lambda: ~query)
            for operator in OPERATORS:
                self.refused(SizeMismatch, operator, query, two(A))
                self.refused(SizeMismatch, operator, two(A), query)
                self.refused(SizeMismatch, operator, query, query)

    def test_too_many_levels(self):
        # The first twelve looks lead to ("tell", 1) at item 2, the others stand behind it.
        for looks in (7, 8):
            self.assertEqual(looks_in((two(chain_term(12)) & two(chain_term(looks))).term), 12 + looks)
        for looks in (9, 10, 20):
            error = self.refused(InvalidQuery, lambda: two(chain_term(12)) & two(chain_term(looks)))
            self.assertEqual(error.path, (2,) * 20)
            error = self.refused(InvalidQuery, lambda: two(chain_term(12)) ^ two(chain_term(looks)))
            self.assertEqual(error.path, (2,) * 20)
            error = self.refused(InvalidQuery, lambda: ~two(chain_term(12)) | two(chain_term(looks)))
            self.assertEqual(error.path, (2,) * 20)

    def test_too_many_looks(self):
        # A full term with k places has 2 ** k - 1 looks and as many tells with 0 as with 1.
        first, second = two(full_term(range(6))), two(full_term(range(3)))
        self.assertEqual(looks_in((first & second).term), 63 + 32 * 7)
        self.assertEqual(looks_in((first | second).term), 63 + 32 * 7)
        self.refused(TooLarge, lambda: first ^ second)
        larger = two(full_term(range(4)))
        self.refused(TooLarge, lambda: first & larger)
        self.refused(TooLarge, lambda: first | larger)
        self.assertEqual(looks_in((two(full_term(range(5))) ^ second).term), 31 + 32 * 7)

    def test_too_many_places(self):
        first, second = two(chain_of(range(5))), two(chain_of(range(5, 9)))
        self.assertEqual(looks_in((first & two(chain_of(range(5, 8)))).term), 8)
        self.refused(TooLarge, lambda: first & second)
        self.refused(TooLarge, lambda: ~first | second)
        # The result of an operator that drops the term of the second query names fewer places.
        self.assertEqual((two(ZERO) & second).term, ZERO)

    def test_too_deep_comes_before_too_large(self):
        first, second = two(chain_term(15)), two(chain_of(range(9, 17)))
        error = self.refused(InvalidQuery, lambda: first & second)
        self.assertEqual(error.path, (2,) * 15 + (3,) * 5)


def chain_of(places):
    """Return a term that looks at the places, one inside another, as its last items, and tells 1 at the end."""
    tail = ONE
    for place in list(places)[::-1]:
        tail = ("look", place, ZERO, tail)
    return tail


class TestJoining(Case):
    def test_by_hand(self):
        joined = join_queries(two(A), two(B), ((0, 1), (2, 3)), 4)
        low, high = ("look", 3, ("tell", 1), ("tell", 0)), ("look", 3, ("tell", 3), ("tell", 2))
        self.assertEqual(query_form(joined), (("look", 1, low, ("look", 0, high, low)), (2,), 4))
        joined = join_queries(Query(("tell", 2), (3,), 3), Query(("tell", 0), (3,), 1), ((1,), (0,), (1,)), 2)
        self.assertEqual(query_form(joined), (ONE, (3,), 2))

    def test_drawn_queries(self):
        source = random.Random(11)
        for outcomes in itertools.product((1, 2, 3, 4), repeat=2):
            for first, second in drawn_pairs(source.randrange(10 ** 6), 4, outcomes):
                new = source.randrange(1, 5)
                table = tuple(tuple(source.randrange(new) for _ in range(outcomes[1])) for _ in range(outcomes[0]))
                joined = join_queries(first, second, table, new)
                self.assertIs(type(joined), Query)
                self.assertEqual(query_form(joined), (told_joined(first.term, second.term, table), first.widths, new))
                for start in starts(first.widths, 4)[:40]:
                    pair = (told(first.term, start), told(second.term, start))
                    self.assertEqual(joined(Row(start)), table[pair[0]][pair[1]])

    def test_unlike_widths(self):
        for table, outcomes in [(((0, 1), (2, 3)), 4), ((), 9), (((9, 9),), 0)]:
            self.refused(SizeMismatch, join_queries, two(ONE, (2,)), two(ONE, (2, 2)), table, outcomes)

    def test_wrong_tables(self):
        first, second = Query(A, (2,), 2), Query(("look", 0, ("tell", 2), ZERO), (2,), 3)
        good = ((0, 1, 0), (1, 1, 0))
        self.assertEqual(join_queries(first, second, good, 2).outcomes, 2)
        for table in [(), ((0, 1, 0),), good + ((0, 0, 0),), ((0, 1), (1, 1, 0)), ((0, 1, 0), (1, 1, 0, 0)), ((), ()),
                      ((0, 1, 2), (1, 1, 0)), ((0, 1, 0), (1, -1, 0)), ((0, 1, 0), (1, 10 ** 20, 0))]:
            self.refused(OutOfRange, join_queries, first, second, table, 2)
        for outcomes in (0, 5, -1, 10 ** 20):
            self.refused(OutOfRange, join_queries, first, second, good, outcomes)
        self.refused(OutOfRange, join_queries, first, second, good, 1)

    def test_entries_that_no_row_gets(self):
        self.refused(OutOfRange, join_queries, two(ONE), two(ONE), ((9, 9), (9, 0)), 2)
        self.assertEqual(join_queries(two(ONE), two(ONE), ((1, 1), (1, 0)), 2).term, ZERO)

    def test_results_that_are_too_large(self):
        same = ((0, 1), (1, 0))
        error = self.refused(InvalidQuery, join_queries, two(chain_term(12)), two(chain_term(9)), same, 2)
        self.assertEqual(error.path, (2,) * 20)
        self.refused(TooLarge, join_queries, two(full_term(range(6))), two(full_term(range(3))), same, 2)
        self.refused(TooLarge, join_queries, two(chain_of(range(5))), two(chain_of(range(5, 9))), same, 2)
        self.refused(OutOfRange, join_queries, two(chain_term(12)), two(chain_term(9)), ((0, 1), (1, 2)), 2)
