"""Points 27 to 30: choosers that meet aims."""

import itertools
import math
import random

from choosersrow.aims import Aim
from choosersrow.choosers import Chooser
from choosersrow.choosing import (choose_alike, count_meeting, followed_orders, made_aim, meeting_at, meeting_choosers,
                                  meeting_index, meets_aim, missed_context, plain_chooser)
from choosersrow.errors import NotMet, OutOfRange, SizeMismatch, TooLarge
from choosersrow.orders import dense_orders
from tests.helpers import SMALL_SIZES, Case, contexts
from tests.oracles import drawn_term, term_table

BEST = Aim(("best", (0, 1)), 2, 2)
NOT_SMALL = [(9, 1), (9, 2), (6, 3), (5, 4), (64, 4)]


def drawn_chooser(source, options, outcomes):
    return Chooser(options, outcomes, tuple(source.randrange(options) for _ in contexts(options, outcomes)))


def listed(aim, **more):
    return list(meeting_choosers(aim, **more))


def rows_of(choosers):
    return [chooser.row for chooser in choosers]


class TestMeeting(Case):
    def test_missing_in_one_context_alone(self):
        for options, outcomes in SMALL_SIZES:
            if options == 1:
                continue
            all_contexts = contexts(options, outcomes)
            aim = Aim(("only", (0,)), options, outcomes)
            row = (0,) * len(all_contexts)
            self.assertIs(meets_aim(Chooser(options, outcomes, row), aim), True)
            self.assertIsNone(missed_context(Chooser(options, outcomes, row), aim))
            for index in {0, len(row) // 2, len(row) - 1}:
                chooser = Chooser(options, outcomes, row[:index] + (1,) + row[index + 1:])
                self.assertIs(meets_aim(chooser, aim), False)
                self.assertEqual(missed_context(chooser, aim), all_contexts[index])

    def test_drawn(self):
        source = random.Random(50)
        for options, outcomes in SMALL_SIZES:
            for _ in range(8):
                term = drawn_term(source, options, outcomes, 3)
                aim = Aim(term, options, outcomes)
                table = term_table(term, options, outcomes)
                for chooser in (drawn_chooser(source, options, outcomes), Chooser.first_good(aim)):
                    missed = [context for context, option, good in zip(contexts(options, outcomes), chooser.row, table)
                              if option not in good]
                    self.assertIs(meets_aim(chooser, aim), not missed)
                    self.assertEqual(missed_context(chooser, aim), missed[0] if missed else None)

    def test_unlike_sizes(self):
        chooser = Chooser.constant(2, 2, 0)
        for options, outcomes in [(1, 2), (3, 2), (2, 1), (2, 3), (4, 4)] + NOT_SMALL:
            aim = Aim(("any",), options, outcomes)
            self.refused(SizeMismatch, meets_aim, chooser, aim)
            self.refused(SizeMismatch, missed_context, chooser, aim)
            self.refused(SizeMismatch, meeting_index, aim, chooser)
            self.refused(SizeMismatch, meeting_index, Aim(("only", ()), options, outcomes), chooser)


class TestNumbers(Case):
    def test_all_of_small_aims(self):
        source = random.Random(51)
        for options, outcomes in [(1, 1), (1, 4), (2, 1), (8, 1), (2, 2), (3, 2), (2, 3)]:
            for _ in range(12):
                term = drawn_term(source, options, outcomes, 2)
                table = term_table(term, options, outcomes)
                if math.prod(map(len, table)) <= 600:
                    self.check_all(Aim(term, options, outcomes), list(itertools.product(*table)))

    def check_all(self, aim, rows):
        self.assertEqual(count_meeting(aim), len(rows))
        self.assertEqual(rows_of(meeting_choosers(aim, most=1024)), rows)
        for index, row in enumerate(rows):
            chooser = meeting_at(aim, index)
            self.assertIs(type(chooser), Chooser)
            self.assertEqual((chooser.options, chooser.outcomes, chooser.row), (aim.options, aim.outcomes, row))
            self.assertEqual(meeting_index(aim, chooser), index)
        for index in (-1, -len(rows), len(rows), len(rows) + 1, 10 ** 300):
            if not 0 <= index < len(rows):
                self.refused(OutOfRange, meeting_at, aim, index)

    def test_aims_that_are_not_met(self):
        for aim in (Aim(("fixed",), 2, 2), Aim(("only", ()), 2, 2), Aim(("unlike", 0), 1, 1)):
            self.assertEqual(count_meeting(aim), 0)
            self.assertEqual(listed(aim), [])
            for index in (-1, 0, 1):
                self.refused(OutOfRange, meeting_at, aim, index)
        error = self.refused(NotMet, meeting_index, Aim(("fixed",), 2, 2), Chooser(2, 2, (0, 0, 0, 1)))
        self.assertEqual(error.index, 2)

    def test_not_met(self):
        for row, index in [((0, 0, 0, 0), 1), ((1, 1, 1, 1), 2), ((0, 0, 1, 0), 1), ((1, 1, 1, 0), 2)]:
            self.assertEqual(self.refused(NotMet, meeting_index, BEST, Chooser(2, 2, row)).index, index)
        last = Chooser(8, 2, (0,) * 255 + (1,))
        self.assertEqual(self.refused(NotMet, meeting_index, Aim(("only", (0,)), 8, 2), last).index, 255)

    def test_huge_numbers(self):
        aim = Aim(("any",), 8, 2)
        many = 8 ** 256
        self.assertGreater(many, 10 ** 200)
        self.assertEqual(count_meeting(aim), many)
        self.assertEqual(meeting_at(aim, 0).row, (0,) * 256)
        self.assertEqual(meeting_at(aim, many - 1).row, (7,) * 256)
        self.assertEqual(meeting_at(aim, 8 ** 255 + 9).row, (1,) + (0,) * 253 + (1, 1))
        self.assertEqual(meeting_index(aim, Chooser.constant(8, 2, 7)), many - 1)
        for index in (many // 3, many // 7 * 2, many - 2):
            self.assertEqual(meeting_index(aim, meeting_at(aim, index)), index)
        self.refused(OutOfRange, meeting_at, aim, many)
        self.refused(OutOfRange, meeting_at, aim, -1)
        self.assertEqual(rows_of(meeting_choosers(aim, start=many - 2)), [(7,) * 255 + (6,), (7,) * 256])
        self.assertEqual(len(listed(aim, start=many - 2000, most=1024)), 1024)

    def test_too_large(self):
        chooser = Chooser.constant(2, 2, 0)
        for options, outcomes in NOT_SMALL:
            aim = Aim(("any",), options, outcomes)
            self.refused(TooLarge, count_meeting, aim)
            for index in (-1, 0):
                self.refused(TooLarge, meeting_at, aim, index)
            for more in ({}, {"start": -1}, {"most": -1}, {"most": 1025}, {"start": -1, "most": 2000}, {"most": 0}):
                self.refused(TooLarge, listed, aim, **more)
            self.refused(SizeMismatch, meeting_index, aim, chooser)


class TestPages(Case):
    def test_pages(self):
        rows = list(itertools.product((0, 1), (1,), (0,), (0, 1)))
        self.assertEqual(rows_of(meeting_choosers(BEST)), rows)
        for start in range(7):
            self.assertEqual(rows_of(meeting_choosers(BEST, start=start)), rows[start:])
            for most in (0, 1, 2, 3, 4, 5, 1024):
                self.assertEqual(rows_of(meeting_choosers(BEST, start=start, most=most)), rows[start:start + most])
        self.assertEqual(listed(BEST, start=10 ** 300), [])

    def test_defaults(self):
        aim = Aim(("any",), 3, 2)
        self.assertEqual(rows_of(meeting_choosers(aim)), list(itertools.islice(itertools.product(range(3), repeat=8), 64)))
        self.assertEqual(len(listed(aim, most=1024)), 1024)
        self.assertEqual(len(listed(aim, most=0)), 0)
        self.assertEqual(len(listed(aim, start=3 ** 8 - 10)), 10)

    def test_numbers_by_keyword_alone(self):
        with self.assertRaises(TypeError):
            list(meeting_choosers(BEST, 0))

    def test_out_of_range(self):
        for aim in (BEST, Aim(("only", ()), 2, 2)):
            for more in [{"start": -1}, {"most": -1}, {"most": 1025}, {"start": -1, "most": 1025},
                         {"start": 10 ** 9, "most": 1025}, {"start": 10 ** 9, "most": -1}, {"start": -1, "most": 0}]:
                self.refused(OutOfRange, listed, aim, **more)

    def test_errors_come_when_it_is_iterated(self):
        for aim, more, kind in [(BEST, {"start": -1}, OutOfRange), (BEST, {"most": 1025}, OutOfRange),
                                (Aim(("any",), 9, 2), {}, TooLarge)]:
            pages = meeting_choosers(aim, **more)
            with self.assertRaises(kind):
                next(pages)


class TestOutcomesOfChoosers(Case):
    def test_by_hand(self):
        chooser = Chooser(3, 2, (2, 1, 2, 2, 2, 1, 1, 1))
        rows = ((0, 1, 2), (0, 1), (0, 2), (1, 2), (1, 2), (1,), (0, 1), (0, 1, 2))
        self.assertEqual(made_aim(chooser).term, ("table", rows))
        self.assertEqual(plain_chooser(chooser).row, (0, 0, 0, 1, 1, 1, 0, 0))

    def test_drawn(self):
        source = random.Random(52)
        for options, outcomes in SMALL_SIZES:
            for _ in range(4):
                self.check(drawn_chooser(source, options, outcomes), drawn_chooser(source, options, outcomes))

    def check(self, chooser, other):
        all_contexts = contexts(chooser.options, chooser.outcomes)
        made, plain = made_aim(chooser), plain_chooser(chooser)
        self.assertIs(type(made), Aim)
        self.assertIs(type(plain), Chooser)
        self.assertEqual((made.options, made.outcomes), (chooser.options, chooser.outcomes))
        self.assertEqual((plain.options, plain.outcomes), (chooser.options, chooser.outcomes))
        alike = [[x for x in range(chooser.options) if context[x] == context[option]]
                 for context, option in zip(all_contexts, chooser.row)]
        self.assertEqual(made.term, ("table", tuple(map(tuple, alike))))
        self.assertEqual(plain.row, tuple(row[0] for row in alike))
        self.assertIs(choose_alike(chooser, plain), True)
        self.assertIs(choose_alike(chooser, chooser), True)
        told = all(option in row for option, row in zip(other.row, alike))
        self.assertIs(choose_alike(chooser, other), told)

    def test_alike_but_for_one_context(self):
        self.assertTrue(choose_alike(Chooser(2, 2, (0, 1, 0, 0)), Chooser(2, 2, (1, 1, 0, 1))))
        self.assertFalse(choose_alike(Chooser(2, 2, (0, 1, 0, 0)), Chooser(2, 2, (0, 1, 1, 0))))
        self.assertFalse(choose_alike(Chooser(2, 2, (0, 1, 0, 0)), Chooser(2, 2, (0, 0, 0, 0))))

    def test_unlike_sizes(self):
        chooser = Chooser.constant(2, 2, 0)
        for options, outcomes in [(1, 2), (3, 2), (2, 1), (2, 3)]:
            self.refused(SizeMismatch, choose_alike, chooser, Chooser.constant(options, outcomes, 0))

    def test_followed_orders(self):
        self.assertEqual(followed_orders(Chooser(2, 2, (0, 1, 0, 0))), ((0, 0), (0, 1)))
        self.assertEqual(followed_orders(Chooser(2, 2, (1, 0, 1, 1))), ((0, 0), (1, 0)))
        self.assertEqual(followed_orders(Chooser.constant(2, 2, 0)), ((0, 0),))
        self.assertEqual(followed_orders(Chooser.constant(1, 3, 0)), dense_orders(3))
        self.assertEqual(followed_orders(Chooser.constant(8, 1, 5)), ((0,),))

    def test_followed_orders_of_best_aims(self):
        for options, outcomes in [(2, 2), (4, 2), (2, 3), (3, 3), (2, 4), (4, 4)]:
            for ranks in dense_orders(outcomes):
                chooser = Chooser.first_good(Aim(("best", ranks), options, outcomes))
                told = tuple(order for order in dense_orders(outcomes) if meets_aim(
                    chooser, Aim(("best", order), options, outcomes)))
                self.assertIn(ranks, told)
                self.assertEqual(followed_orders(chooser), told)
