"""Points 99 and 100: what holds for some and for every option, and searches for rows."""

import random

from choosersrow.errors import OutOfRange, SizeMismatch, TooLarge
from choosersrow.quantified import every_row, find_row, quantified_truth
from choosersrow.queries import Query
from choosersrow.rows import Row
from choosersrow.tracing import trace_query
from tests.helpers import Case
from tests.queryoracles import all_starts, drawn_queries, full_term, row_form, row_with, told, told_reach, width

ZERO, ONE = ("tell", 0), ("tell", 1)


def told_truth(query, words, entries=()):
    """Return whether it holds, by the words of point 99."""
    place = len(entries)
    if place == told_reach(query):
        return told(query.term, entries) == 1
    parts = [told_truth(query, words, entries + (option,)) for option in range(width(query.widths, place))]
    return {"some": any, "every": all}[words[place % len(words)]](parts)


class TestQuantified(Case):
    def test_drawn_queries(self):
        source = random.Random(50)
        for query in drawn_queries(51, 120, 2, 4):
            for _ in range(4):
                words = tuple(source.choice(["some", "every"]) for _ in range(source.randrange(1, 9)))
                truth = quantified_truth(query, words)
                self.assertIs(truth, told_truth(query, words))

    def test_by_hand(self):
        # Place 1 is the same as place 0.
        same = Query(full_term((0, 1), 2, lambda row: int(row[0] == row[1])), (2,), 2)
        for words, truth in [(("some",), True), (("every",), False), (("every", "some"), True), (("some", "every"), False),
                             (("every", "some") * 4, True), (("some", "every", "every"), False)]:
            self.assertIs(self.asked(quantified_truth, same, words), truth)

    def test_words_that_repeat(self):
        far = Query(full_term((10, 21), 2, lambda row: int(row[0] == row[1])), (2,), 2)
        # With three words, place 10 has the one with the index 1, and place 21 the one with the index 0.
        for words, truth in [(("some", "every", "some"), True), (("every", "some", "some"), False),
                             (("every", "some"), True), (("some", "every"), False), (("some",), True)]:
            self.assertIs(quantified_truth(far, words), truth)

    def test_reach_zero(self):
        for words in (("some",), ("every",), ("every", "some")):
            self.assertIs(self.asked(quantified_truth, Query(ONE, (2,), 2), words), True)
            self.assertIs(self.asked(quantified_truth, Query(ZERO, (2,), 2), words), False)
            self.assertIs(quantified_truth(Query(("look", 9, ONE, ONE), (2,), 2), words), True)

    def test_very_many_heads(self):
        query = Query(full_term((0, 14, 28, 42, 56, 70, 84, 98), 2), (2, 4), 2)
        self.assertIs(quantified_truth(query, ("some", "every")), True)
        self.assertIs(quantified_truth(query, ("every", "some")), False)
        self.assertIs(quantified_truth(query, ("every",) + ("some",) * 3), True)

    def test_wrong_words(self):
        query = Query(("look", 0, ONE, ZERO), (2,), 2)
        for words in [(), ("any",), ("some", "all"), ("every", "Some"), ("some", "every", ""), ("some", 1), (0,)]:
            self.refused(OutOfRange, quantified_truth, query, words)
            self.refused(OutOfRange, quantified_truth, Query(ONE, (2,), 2), words)

    def test_other_numbers_of_outcomes(self):
        for outcomes in (1, 3, 4):
            for words in [("some",), (), ("any",)]:
                self.refused(SizeMismatch, quantified_truth, Query(ZERO, (2,), outcomes), words)


class TestSearches(Case):
    def test_drawn_queries(self):
        for query in drawn_queries(52, 120, 2):
            found = [start for start in all_starts(query) if told(query.term, start) == 1]
            row = find_row(query, query.widths)
            self.assertEqual(row_form(row), row_with(found[0] if found else None))
            self.assertIs(every_row(query, query.widths), len(found) == len(all_starts(query)))
            if row is not None:
                self.assertIs(type(row), Row)

    def test_by_hand(self):
        self.assertEqual(row_form(find_row(lambda row: int(row[2] + row[5] == 3), (3,))), ((0, 0, 1, 0, 0, 2), (0,)))
        self.assertIsNone(self.asked(find_row, lambda row: int(row[2] > 2), (3,)))
        self.assertEqual(row_form(find_row(lambda row: 1, (3,))), ((), (0,)))
        self.assertIs(self.asked(every_row, lambda row: int(row[2] <= 2), (3,)), True)
        self.assertIs(self.asked(every_row, lambda row: int(row[2] <= 1), (3,)), False)
        self.assertIs(self.asked(every_row, lambda row: 1, (3,)), True)
        self.assertIs(self.asked(every_row, lambda row: 0, (3,)), False)

    def test_entries_are_options(self):
        self.assertIsNone(find_row(lambda row: int(row[1] == 1), (2, 1)))
        self.assertEqual(row_form(find_row(lambda row: int(row[2] == 1), (2, 1))), ((0, 0, 1), (0,)))

    def test_searches_within_searches(self):
        def like(row):
            return int(find_row(lambda other: int(other[0] == row[0] and other[1] != row[3]), (2,)) is not None)
        self.assertIs(every_row(like, (2,)), True)

        def unlike(row):
            return int(every_row(lambda other: int(other[0] != row[0]), (2,)))
        self.assertIsNone(find_row(unlike, (2,)))

        def copied(row):
            other = find_row(lambda one: int(all(one[place] == row[place] for place in range(4))), (2,))
            return int(other.start(4) == (1, 0, 1, 1))
        self.assertEqual(row_form(find_row(copied, (2,))), ((1, 0, 1, 1), (0,)))

        def deep(row):
            return int(every_row(lambda one: int(find_row(lambda two: int(two[0] == one[0] and two[1] == row[0]),
                                                          (2,)) is not None) * row[1], (2,)))
        self.assertEqual(row_form(find_row(deep, (2,))), ((0, 1), (0,)))

    def test_queries_of_searches(self):
        query = trace_query(lambda row: int(find_row(lambda other: other[0] * row[1], (2,)) is not None), (2,), 2)
        self.assertEqual(query(Row((0, 1))), 1)
        self.assertEqual(query(Row((1, 0))), 0)

    def test_refusals(self):
        for call in (find_row, every_row):
            for widths in [(), (0,), (5,), (2,) * 7, (2, -1)]:
                self.refused(OutOfRange, call, lambda row: 1, widths)
            for number in (2, -1, 10 ** 20):
                self.refused(OutOfRange, call, lambda row: number, (2,))
            # The wrong answer counts, although a row was found before.
            self.refused(OutOfRange, call, lambda row: 1 + row[0], (2,))
            self.refused(OutOfRange, call, lambda row: -row[0], (2,))
            self.refused(TooLarge, call, lambda row: sum(row[place] for place in range(21)), (1,))
            self.refused(TooLarge, call, lambda row: sum(row[place] for place in range(9)) % 2, (2,))
            with self.assertRaises(ZeroDivisionError):
                call(lambda row: row[0] // row[1], (2,))
