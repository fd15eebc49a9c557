"""Points 83 to 86: queries, asking them, their texts, and fixed places."""

import itertools
import random

from choosersrow.errors import InvalidQuery, InvalidTerm, InvalidText, OutOfRange, TooLarge
from choosersrow.queries import Query, fix_place, looked_places, query_tail
from choosersrow.rows import Row
from tests.helpers import Case
from tests.queryoracles import (all_starts, chain_term, drawn_queries, full_term, looks_in, named, query_form, row_form,
                                told, width)

ZERO, ONE = ("tell", 0), ("tell", 1)
NO_TERMS = [(), 0, "tell", "look", None, ["tell", 0], ("told", 0), ("Tell", 0), (0, 0), (("tell",), 0), ("tell",),
            ("tell", 0, 0), ("tell", 0, ZERO), ("look",), ("look", 0), ("node", 0, ZERO, ONE), (None,), ("looks", 0, ONE)]
NO_NUMBERS = ["a", (), (0,), None, True, -1]
QUERY = Query(("look", 1, ZERO, ("look", 0, ONE, ZERO)), (2,), 2)


def sized(looks):
    """Return a term with so many looks, at most 13 deep, at one place."""
    if looks == 0:
        return ZERO
    return ("look", 4, sized((looks - 1) // 2), sized(looks - 1 - (looks - 1) // 2))


class TestQueries(Case):
    def test_attributes(self):
        self.assertEqual(query_form(QUERY), (("look", 1, ZERO, ("look", 0, ONE, ZERO)), (2,), 2))
        self.assertEqual(query_form(Query(("tell", 3), (1, 4, 2), 4)), (("tell", 3), (1, 4, 2), 4))

    def test_class_values(self):
        self.assertEqual((Query.MOST_LOOKS, Query.MOST_LEVELS, Query.MOST_CHOICES), (300, 20, 256))

    def test_widths_repeat(self):
        for place, wide in [(0, 1), (1, 3), (2, 1), (3, 3), (97, 3), (98, 1), (99, 3)]:
            term = ("look", place) + (ZERO,) * wide
            self.assertEqual(Query(term, (1, 3), 1).term, term)
        self.assertEqual(Query(("look", 11, ZERO, ZERO, ZERO, ZERO), (1, 1, 1, 1, 1, 4), 1).widths, (1, 1, 1, 1, 1, 4))

    def test_no_equality_of_their_own(self):
        self.assertNotEqual(Query(ZERO, (2,), 2), Query(ZERO, (2,), 2))


class TestWrongQueries(Case):
    def wrong(self, term, path, widths=(2,), outcomes=2):
        error = self.refused(InvalidQuery, Query, term, widths, outcomes)
        self.assertEqual(error.path, path, term)

    def test_wrong_numbers(self):
        for widths, outcomes in [((), 2), ((2,) * 7, 2), ((0,), 2), ((5,), 2), ((2, 0, 2), 2), ((2, -1), 2), ((), 0),
                                 ([2], 2), (2, 2), (None, 2), ("aa", 2), (((2,),), 2), (("a",), 2), ((2,), 0),
                                 ((2,), 5), ((2,), -1), ((True,), 2), ((2, None), 2), ((10 ** 20,), 2)]:
            for term in [ZERO, QUERY.term, ("tell", 9), (), chain_term(30), full_term(range(9))]:
                self.refused(OutOfRange, Query, term, widths, outcomes)
        for outcomes in (1, 2, 3, 4):
            for count in (1, 6):
                for wide in (1, 4):
                    self.assertEqual(Query(ZERO, (wide,) * count, outcomes).outcomes, outcomes)

    def test_no_terms(self):
        for part in NO_TERMS:
            self.wrong(part, ())
            self.wrong(("look", 0, part, ONE), (2,))
            self.wrong(("look", 0, ONE, ("look", 1, part, part)), (3, 2))

    def test_no_terms_behind_a_wrong_place(self):
        for part in NO_TERMS:
            for place in [100, -1, "a", (), None]:
                self.wrong(("look", place, part, ONE), (1,))
                self.wrong(("look", place, part), (1,))
                self.wrong(("look", place, ONE, ONE, part), (1,))
                self.wrong(("look", 0, ONE, ("look", place, part)), (3, 1))

    def test_outcomes_of_tells(self):
        for outcome in NO_NUMBERS + [2, 10 ** 20]:
            self.wrong(("tell", outcome), (1,))
            self.wrong(("look", 0, ONE, ("tell", outcome)), (3, 1))
        for outcomes in (1, 2, 3, 4):
            self.wrong(("tell", outcomes), (1,), (2,), outcomes)
            self.assertEqual(Query(("tell", outcomes - 1), (2,), outcomes).term, ("tell", outcomes - 1))

    def test_places(self):
        for place in NO_NUMBERS + [100, 10 ** 20]:
            self.wrong(("look", place, ONE, ZERO), (1,))
            self.wrong(("look", 5, ("look", place, ONE, ZERO), 7), (2, 1))
        for place in (0, 1, 98, 99):
            self.assertEqual(Query(("look", place, ONE, ZERO), (2,), 2).term[1], place)

    def test_numbers_of_items(self):
        for many in (1, 3, 4, 9):
            self.wrong(("look", 0) + (ONE,) * many, ())
            self.wrong(("look", 0, ONE, ("look", 3) + (7,) * many), (3,))
        for place in range(4):
            wide = (1, 2, 3, 4)[place]
            for many in (1, 2, 3, 4, 5):
                if many != wide:
                    self.wrong(("look", place) + (ONE,) * many, (), (1, 2, 3, 4))
        self.wrong(("look", 0), (), (1,))

    def test_levels(self):
        # The chain has its looks at item 2, and the look inside 19 others is the 20th.
        for looks in (19, 20):
            self.assertEqual(looks_in(Query(chain_term(looks), (2,), 2).term), looks)
        for looks in (21, 22, 29):
            self.wrong(chain_term(looks), (2,) * 20)
        self.wrong(chain_term(20, tail=("look", 100)), (2,) * 20)
        self.wrong(chain_term(20, tail=("look", 100, 7, 7)), (2,) * 20)
        self.wrong(chain_term(20, tail=("tell", 2)), (2,) * 20 + (1,))
        self.wrong(chain_term(19, tail=("look", 100, 7, 7)), (2,) * 19 + (1,))
        self.wrong(("look", 0, chain_term(19), chain_term(20)), (3,) + (2,) * 19)
        self.assertEqual(looks_in(Query(("look", 0, chain_term(19), chain_term(19)), (2,), 2).term), 39)

    def test_first_in_reading_order(self):
        self.wrong(("look", 0, ("tell", 9), 7), (2, 1))
        self.wrong(("look", 0, 7, ("tell", 9)), (2,))
        self.wrong(("look", 100, ("tell", 9), 7), (1,))
        self.wrong(("look", 0, ("look", 100, 7, 7), ("tell", 9)), (2, 1))
        self.wrong(("look", 0, ("look", 1, ZERO, 7), ("tell", 9)), (2, 3))
        self.wrong(("look", 0, ("tell", 9)), ())
        self.wrong(("look", 0, ONE, ("look", 0, ONE, ("look", -1))), (3, 3))
        self.wrong(("look", 0, chain_term(25), 7), (2,) * 20)
        self.wrong(("look", 0, 7, chain_term(25)), (2,))

    def test_too_many_looks(self):
        self.assertEqual(looks_in(Query(sized(300), (2,), 1).term), 300)
        for looks in (301, 302, 900):
            self.refused(TooLarge, Query, sized(looks), (2,), 1)
        # Each look counts as often as it occurs, although the two terms are one and the same.
        half = sized(150)
        self.refused(TooLarge, Query, ("look", 0, half, half), (2,), 2)
        half = sized(149)
        self.assertEqual(looks_in(Query(("look", 0, half, half), (2,), 2).term), 299)

    def test_too_many_choices(self):
        for places, widths in [(range(8), (2,)), (range(4), (4,)), ((0, 10, 20, 30, 40, 50, 60, 99), (2,)),
                               ((0, 1, 2, 3), (4, 4, 4, 4, 1)), ((0, 1, 3, 4, 6, 7), (2, 4, 1, 2, 1, 4))]:
            term = chain_of(places, widths)
            self.assertEqual(Query(term, widths, 2).term, term)
            product = 1
            for place in places:
                product *= width(widths, place)
            self.assertLessEqual(product, 256)
        for places, widths in [(range(9), (2,)), (range(5), (4,)), (range(6), (3,)), ((0, 1, 2, 3, 5), (4,) * 4 + (1, 2)),
                               (range(20), (3,))]:
            self.refused(TooLarge, Query, chain_of(places, widths), widths, 2)
        self.assertEqual(len(named(Query(chain_of(range(5), (3,)), (3,), 2).term)), 5)

    def test_each_place_counts_once(self):
        term = chain_of(tuple(range(8)) + tuple(range(8)), (2,))
        self.assertEqual(looks_in(Query(term, (2,), 2).term), 16)
        term = ("look", 0, chain_of(range(1, 8), (2,)), chain_of(range(1, 8), (2,)))
        self.assertEqual(len(named(Query(term, (2,), 2).term)), 8)
        term = ("look", 0, chain_of(range(1, 5), (2,)), chain_of(range(5, 9), (2,)))
        self.refused(TooLarge, Query, term, (2,), 2)

    def test_places_of_width_one(self):
        term = chain_of(range(20), (1,))
        self.assertEqual(Query(term, (1,), 2).term, term)

    def test_wrong_parts_come_before_sizes(self):
        self.wrong(("look", 0, sized(300), ("tell", 9)), (3, 1))
        self.wrong(chain_of(range(9), (2,), ("tell", 2)), (3,) * 9 + (1,))


def chain_of(places, widths, tail=ONE):
    """Return a term that looks at the places, one inside another, as its last items."""
    for place in list(places)[::-1]:
        tail = ("look", place) + (ZERO,) * (width(widths, place) - 1) + (tail,)
    return tail


class TestAsking(Case):
    def test_all_starts(self):
        for query in drawn_queries(1, 120):
            for start in all_starts(query)[:200]:
                self.assertEqual(query(Row(start)), told(query.term, start))

    def test_looked_places(self):
        query = Query(("look", 2, ("look", 0, ZERO, ONE), ("look", 2, ZERO, ("look", 1, ONE, ZERO))), (2,), 2)
        for start, places in [((0, 0, 0), (2, 0)), ((1, 0, 0), (2, 0)), ((0, 1, 1), (2, 2, 1)), ((1, 0, 1), (2, 2, 1))]:
            self.assertEqual(self.asked(looked_places, query, Row(start)), places)
            self.assertEqual(self.asked(query, Row(start)), told(query.term, start))
        self.assertEqual(self.asked(looked_places, Query(ONE, (2,), 2), Row((7,))), ())
        self.assertEqual(looked_places(Query(chain_term(20), (2,), 2), Row(())), (0,) * 20)
        self.assertEqual(looked_places(Query(chain_of((99, 3, 40), (2,)), (2,), 2), Row((), (1,))), (99, 3, 40))

    def test_cycles(self):
        query = Query(chain_of((98, 99), (2,)), (2,), 2)
        for row, outcome in [(Row((), (1,)), 1), (Row((), (0, 1)), 0), (Row((), (1, 0)), 0), (Row((0,) * 98, (1,)), 1)]:
            self.assertEqual(query(row), outcome)

    def test_no_options(self):
        query = Query(("look", 1, ZERO, ("look", 3, ONE, ZERO, ONE)), (1, 2, 1, 3), 2)
        for start in [(0, 2), (0, 1, 0, 3), (0, 10 ** 30), (5, 2), (9, 1, 9, 9)]:
            self.refused(OutOfRange, query, Row(start))
            self.refused(OutOfRange, looked_places, query, Row(start))

    def test_entries_that_are_not_looked_at(self):
        query = Query(("look", 1, ZERO, ("look", 3, ONE, ZERO, ONE)), (1, 2, 1, 3), 2)
        for start, outcome in [((7, 0, 8, 9), 0), ((7, 1, 8, 2), 1), ((99, 1, 99, 1), 0)]:
            self.assertEqual(query(Row(start, (50,))), outcome)
            self.assertEqual(looked_places(query, Row(start, (50,))), (1, 3)[:2 if start[1] else 1])
        self.assertEqual(Query(ONE, (2,), 2)(Row((9,), (9,))), 1)

    def test_the_first_wrong_look_counts(self):
        query = Query(("look", 0, ZERO, ("look", 5, ONE, ZERO)), (2,), 2)
        self.assertEqual(query(Row((0,), (7,))), 0)
        self.refused(OutOfRange, query, Row((1,), (7,)))


class TestTexts(Case):
    def test_text(self):
        self.assertEqual(QUERY.text(), "(query 2 (2) (look 1 (tell 0) (look 0 (tell 1) (tell 0))))")
        self.assertEqual(Query(("tell", 3), (1, 4, 2), 4).text(), "(query 4 (1 4 2) (tell 3))")

    def test_read_back(self):
        for query in drawn_queries(2, 60) + [Query(chain_term(20), (2,), 2)]:
            again = Query.read(query.text())
            self.assertIs(type(again), Query)
            self.assertEqual(query_form(again), query_form(query))
            self.assertEqual(again.text(), query.text())

    def test_broken_texts(self):
        for text, position in [("", 0), ("(query 2 (2) (tell 0)", 21), ("(query 2 (2) (tell 0)))", 22), ("(query 9 ()  0)", 12),
                               ("(query 02 (2) (tell 0))", 8), ("(query 2 (2) (tell 0)) ", 22), ("(query 5 () [])", 12)]:
            self.assertEqual(self.refused(InvalidText, Query.read, text).position, position, text)

    def test_other_terms(self):
        for text in ["query", "2", "()", "(query)", "(query 2 (2))", "(query 2 (2) (tell 0) 0)", "(queries 2 (2) (tell 0))",
                     "(2 2 (2) (tell 0))", "(query a (2) (tell 0))", "(query (2) (2) (tell 0))", "(query 2 2 (tell 0))",
                     "(query 9 a (tell 9))", "(query () () ())", "(game 2 (end 0))", "((query) 2 (2) (tell 0))",
                     "(query 9 7 worst)"]:
            self.assertEqual(self.refused(InvalidTerm, Query.read, text).path, (), text)

    def test_what_creating_raises(self):
        for text in ["(query 0 (2) (tell 0))", "(query 5 () worst)", "(query 2 () worst)", "(query 2 (5) (tell 0))",
                     "(query 2 (0) (tell 0))", "(query 2 (a) (tell 9))", "(query 2 ((2)) (tell 0))",
                     "(query 2 (2 2 2 2 2 2 2) (tell 0))"]:
            self.refused(OutOfRange, Query.read, text)
        for text, path in [("(query 2 (2) tell)", ()), ("(query 2 (2) 7)", ()), ("(query 2 (2) (tell 2))", (1,)),
                           ("(query 2 (2) (look 100 7 7))", (1,)), ("(query 2 (2) (look 0 (tell 0)))", ()),
                           ("(query 2 (2) (look 0 (tell 0) 7))", (3,))]:
            self.assertEqual(self.refused(InvalidQuery, Query.read, text).path, path, text)
        text = Query(sized(300), (2,), 2).text().replace("(tell 0)", "(look 5 (tell 0) (tell 0))", 1)
        self.refused(TooLarge, Query.read, text)


class TestFixing(Case):
    def test_fix_place(self):
        for query in drawn_queries(3, 80):
            for place in range(6):
                for option in range(width(query.widths, place)):
                    fixed = fix_place(query, place, option)
                    self.assertIs(type(fixed), Query)
                    self.assertEqual((fixed.widths, fixed.outcomes), (query.widths, query.outcomes))
                    self.assertNotIn(place, named(fixed.term))
                    self.assertEqual(fixed.term, told_fixed(query.term, place, option))

    def test_fixed_queries_tell(self):
        for query in drawn_queries(4, 40):
            for place, start in itertools.product(range(3), all_starts(query)[:60]):
                for option in range(width(query.widths, place)):
                    longer = start + (0,) * 4
                    other = longer[:place] + (option,) + longer[place + 1:]
                    self.assertEqual(fix_place(query, place, option)(Row(start)), query(Row(other)))

    def test_by_hand(self):
        query = Query(("look", 2, ("look", 0, ZERO, ONE), ("look", 2, ZERO, ("look", 2, ONE, ZERO))), (2,), 2)
        self.assertEqual(fix_place(query, 2, 1).term, ZERO)
        self.assertEqual(fix_place(query, 2, 0).term, ("look", 0, ZERO, ONE))
        self.assertEqual(fix_place(query, 0, 1).term, ("look", 2, ONE, query.term[3]))

    def test_places_that_are_not_named(self):
        for place in (3, 50, 98, 99):
            self.assertEqual(query_form(fix_place(QUERY, place, 1)), query_form(QUERY))

    def test_wrong_places_and_options(self):
        query = Query(("look", 1, ZERO, ("look", 3, ONE, ZERO, ONE)), (1, 2, 1, 3), 2)
        for place in (-1, 100, 101, 10 ** 20):
            for option in (0, 9):
                self.refused(OutOfRange, fix_place, query, place, option)
        for place in (0, 1, 2, 3, 99):
            for option in (-1, width(query.widths, place), 10 ** 20):
                self.refused(OutOfRange, fix_place, query, place, option)

    def test_tails_by_hand(self):
        query = Query(("look", 1, ("look", 0, ZERO, ONE), ("look", 3, ONE, ("look", 0, ONE, ZERO), ZERO), ONE), (2, 3), 2)
        self.assertEqual(query_form(query_tail(query, 0)),
                         (("look", 0, ZERO, ("look", 2, ONE, ONE, ZERO), ONE), (3, 2), 2))
        self.assertEqual(query_form(query_tail(query, 1)),
                         (("look", 0, ONE, ("look", 2, ONE, ZERO, ZERO), ONE), (3, 2), 2))
        self.assertEqual(query_form(query_tail(Query(("look", 99, ONE, ZERO, ZERO), (1, 2, 4, 3), 2), 0)),
                         (("look", 98, ONE, ZERO, ZERO), (2, 4, 3, 1), 2))
        self.assertEqual(query_form(query_tail(Query(("tell", 2), (4,), 3), 3)), (("tell", 2), (4,), 3))

    def test_tails_tell_the_rest(self):
        source = random.Random(5)
        for query in drawn_queries(5, 80):
            for start in all_starts(query, 1)[:80]:
                row = Row(start, tuple(0 for _ in range(source.randrange(1, 3))))
                self.assertEqual(query(row), query_tail(query, row[0])(row.after(1)))
                self.assertEqual(row_form(row.after(1).lead(start[:1])), row_form(row.least()))

    def test_wrong_options_of_tails(self):
        for query in drawn_queries(6, 20):
            for option in (-1, width(query.widths, 0), 10 ** 20):
                self.refused(OutOfRange, query_tail, query, option)
            self.assertEqual(query_tail(query, 0).widths, query.widths[1:] + query.widths[:1])

    def test_arguments_stay(self):
        form = query_form(QUERY)
        for call in (lambda: fix_place(QUERY, 0, 1), lambda: query_tail(QUERY, 1), lambda: QUERY(Row((0, 1)))):
            call()
            self.assertEqual(query_form(QUERY), form)


def told_fixed(term, place, option):
    """Return the term with each look at the place replaced, by the words of point 86."""
    while term[0] == "look" and term[1] == place:
        term = term[2 + option]
    return term if term[0] == "tell" else term[:2] + tuple(told_fixed(below, place, option) for below in term[2:])
