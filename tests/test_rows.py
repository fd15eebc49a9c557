"""Points 81 and 82: endless rows."""

import itertools
import random

from choosersrow.errors import OutOfRange
from choosersrow.rows import Row, same_rows
from tests.helpers import Case

HUGE = 10 ** 40
# Pairs of head and cycle with entries that often repeat.
FORMS = [(head, cycle) for length in range(4) for head in itertools.product((0, 1), repeat=length)
         for size in range(1, 5) for cycle in itertools.product((0, 1), repeat=size)]


def entries(form, many, start=0):
    """Return so many entries of the row with the form, by the words of point 81."""
    head, cycle = form
    return tuple(head[place] if place < len(head) else cycle[(place - len(head)) % len(cycle)]
                 for place in range(start, start + many))


def told_least(form):
    """Return the least form: all shorter ones are tried, those with shorter cycles first."""
    head, cycle = form
    many = 2 * (len(head) + len(cycle)) + 20
    whole = entries(form, many)
    for size in range(1, len(cycle) + 1):
        for length in range(len(head) + len(cycle) + 1):
            other = (whole[:length], whole[length:length + size])
            if entries(other, many) == whole:
                return other
    raise AssertionError(form)


def form_of(row):
    return (row.head, row.cycle)


class TestEntries(Case):
    def test_attributes(self):
        row = Row((5, 0), (1, 2, 1, 2))
        self.assertEqual(form_of(row), ((5, 0), (1, 2, 1, 2)))
        self.assertEqual(form_of(Row((3,))), ((3,), (0,)))
        self.assertEqual(form_of(Row(())), ((), (0,)))
        self.assertEqual(form_of(Row((), (7,))), ((), (7,)))

    def test_places(self):
        for form in FORMS:
            row = Row(*form)
            told = entries(form, 20)
            self.assertEqual(tuple(row[place] for place in range(20)), told)
            for length in (0, 1, 5, 20):
                self.assertEqual(row.start(length), told[:length])

    def test_very_large_numbers(self):
        row = Row((HUGE, 4), (1, HUGE + 1, 2))
        self.assertEqual((row[0], row[1], row[2], row[3], row[5]), (HUGE, 4, 1, HUGE + 1, 1))
        for place in (HUGE, HUGE + 1, HUGE + 2, 3 * HUGE, 10 ** 300):
            self.assertEqual(row[place], (1, HUGE + 1, 2)[(place - 2) % 3])

    def test_starts(self):
        row = Row((5,), (1, 2))
        self.assertEqual(row.start(0), ())
        self.assertEqual(row.start(6), (5, 1, 2, 1, 2, 1))
        self.assertEqual(len(row.start(1000)), 1000)
        self.assertEqual(self.asked(row.start, 1), (5,))
        for length in (-1, -2, -HUGE):
            self.refused(OutOfRange, row.start, length)
            self.refused(OutOfRange, Row(()).start, length)

    def test_wrong_places(self):
        for row in (Row(()), Row((5,), (1, 2)), Row((1, 2, 3))):
            for place in (-1, -2, -3, -HUGE):
                self.refused(OutOfRange, lambda: row[place])

    def test_wrong_rows(self):
        for head, cycle in [((), ()), ((1, 2), ()), ((-1,), (0,)), ((0, -1, 2), (1,)), ((), (-1,)), ((0,), (0, -1)),
                            ((0,), (-HUGE, 3)), ((-1,), ())]:
            self.refused(OutOfRange, Row, head, cycle)
        self.refused(OutOfRange, Row, (4, -4))

    def test_no_end(self):
        row = Row((5,), (1, 2))
        for call in (iter, list, tuple, sorted, sum, set, lambda one: 5 in one, lambda one: [each for each in one],
                     lambda one: [*one], enumerate, zip):
            self.refused(TypeError, call, row)


class TestLeastForms(Case):
    def test_all_small_forms(self):
        for form in FORMS:
            row = Row(*form)
            self.assertEqual(form_of(row.least()), told_least(form), form)
            self.assertEqual(form_of(row), form)
            self.assertIs(type(row.least()), Row)

    def test_by_hand(self):
        for form, told in [(((1, 0), (1, 0)), ((), (1, 0))), (((0, 0), (0,)), ((), (0,))), (((1, 0), (0,)), ((1,), (0,))),
                           (((2,), (1, 2)), ((), (2, 1))), (((5, 1, 2), (1, 2, 1, 2)), ((5,), (1, 2))),
                           (((1, 2, 2), (1, 2)), ((1, 2), (2, 1))), (((), (1, 2, 1)), ((), (1, 2, 1))),
                           (((3, 1), (2, 3, 1)), ((), (3, 1, 2))), (((0,), (1, 0, 0, 1, 0, 0)), ((), (0, 1, 0)))]:
            self.assertEqual(form_of(Row(*form).least()), told)

    def test_long_forms(self):
        self.assertEqual(form_of(Row((3,) * 400, (3,) * 400).least()), ((), (3,)))
        self.assertEqual(form_of(Row((1, 2) * 200, (1, 2) * 200).least()), ((), (1, 2)))
        self.assertEqual(form_of(Row((2,) + (1, 2) * 199, (1, 2) * 200).least()), ((), (2, 1)))
        self.assertEqual(form_of(Row((9,) + (1, 2) * 199, (1, 2) * 200).least()), ((9,), (1, 2)))
        cycle = (0,) * 399 + (1,)
        self.assertEqual(form_of(Row((), cycle).least()), ((), cycle))
        self.assertEqual(form_of(Row((0,) * 399 + (1,), cycle).least()), ((), cycle))
        self.assertEqual(form_of(Row((1,), cycle).least()), ((), (1,) + (0,) * 399))


class TestAfter(Case):
    def test_all_small_forms(self):
        for form in FORMS:
            for count in (0, 1, 2, 3, 4, 7, 12):
                row = Row(*form).after(count)
                self.assertIs(type(row), Row)
                self.assertEqual(row.start(12), entries(form, 12, count))
                self.assertEqual(form_of(row), told_least(form_of(row)))

    def test_very_large_counts(self):
        row = Row((5, 6, 7), (1, 2, 3))
        for count in (HUGE, HUGE + 1, HUGE + 2, 10 ** 300):
            self.assertEqual(row.after(count).start(7), entries(form_of(row), 7, count))
            self.assertEqual(len(row.after(count).cycle), 3)

    def test_wrong_counts(self):
        for count in (-1, -2, -HUGE):
            self.refused(OutOfRange, Row((5,), (1, 2)).after, count)
            self.refused(OutOfRange, Row(()).after, count)

    def test_by_hand(self):
        self.assertEqual(form_of(Row((5,), (1, 2)).after(0)), ((5,), (1, 2)))
        self.assertEqual(form_of(Row((1, 2), (1, 2)).after(0)), ((), (1, 2)))
        self.assertEqual(form_of(Row((5,), (1, 2)).after(1)), ((), (1, 2)))
        self.assertEqual(form_of(Row((5,), (1, 2)).after(2)), ((), (2, 1)))


class TestLead(Case):
    def test_all_small_forms(self):
        for form in FORMS:
            for lead in [(), (0,), (1,), (0, 1), (1, 0), (2, 0, 1)]:
                row = Row(*form).lead(lead)
                self.assertIs(type(row), Row)
                self.assertEqual(row.start(15), (lead + entries(form, 15))[:15])
                self.assertEqual(form_of(row), told_least(form_of(row)))

    def test_after_and_lead(self):
        source = random.Random(100)
        for _ in range(60):
            row = Row(tuple(source.randrange(3) for _ in range(source.randrange(5))),
                      tuple(source.randrange(3) for _ in range(source.randrange(1, 5))))
            count = source.randrange(9)
            self.assertEqual(form_of(row.after(count).lead(row.start(count))), form_of(row.least()))

    def test_wrong_entries(self):
        for lead in [(-1,), (0, -1), (-HUGE, 3), (1, 2, -3, 4)]:
            self.refused(OutOfRange, Row((5,), (1, 2)).lead, lead)

    def test_by_hand(self):
        self.assertEqual(form_of(Row((), (1, 2)).lead((2,))), ((), (2, 1)))
        self.assertEqual(form_of(Row((), (1, 2)).lead(())), ((), (1, 2)))
        self.assertEqual(form_of(Row((3,), (1, 2, 1, 2)).lead((HUGE,))), ((HUGE, 3), (1, 2)))


class TestSameRows(Case):
    def test_small_forms(self):
        some = FORMS[::5]
        for one in some:
            for other in some:
                told = entries(one, 40) == entries(other, 40)
                self.assertIs(same_rows(Row(*one), Row(*other)), told)

    def test_by_hand(self):
        for one, other, told in [(((1, 0), (1, 0)), ((), (1, 0)), True), (((), (1, 0)), ((1,), (0, 1)), True),
                                 (((), (1, 0)), ((), (0, 1)), False), (((0,), (0,)), ((), (0, 0, 0)), True),
                                 (((1,), (0,)), ((), (0,)), False), (((), (1, 2)), ((), (1, 2, 1, 2)), True),
                                 (((), (1, 2)), ((), (1, 2, 1)), False)]:
            self.assertIs(self.asked(same_rows, Row(*one), Row(*other)), told)
            self.assertIs(self.asked(same_rows, Row(*other), Row(*one)), told)

    def test_rows_have_no_equality_of_their_own(self):
        self.assertNotEqual(Row((1,)), Row((1,)))
