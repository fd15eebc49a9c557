"""Points 25 and 26: ranks and the orders of aims."""

import itertools
import random

from choosersrow.aims import Aim
from choosersrow.aimtables import table_aim
from choosersrow.errors import OutOfRange, TooLarge
from choosersrow.orders import dense_orders, dense_ranks, opposite_ranks, order_of
from tests.helpers import SMALL_SIZES, Case
from tests.oracles import drawn_term, term_table


def is_dense(ranks):
    return set(ranks) == set(range(max(ranks) + 1))


def told_order(table, options, outcomes):
    for ranks in itertools.product(range(outcomes), repeat=outcomes):
        if is_dense(ranks) and term_table(("best", ranks), options, outcomes) == table:
            return ranks
    return None


class TestRanks(Case):
    def test_dense_ranks(self):
        for ranks, dense in [((0,), (0,)), ((9,), (0,)), ((5, 2, 5, 9), (1, 0, 1, 2)), ((3, 3), (0, 0)),
                             ((0, 9), (0, 1)), ((9, 0), (1, 0)), ((1, 2, 3, 4), (0, 1, 2, 3)), ((4, 2, 0), (2, 1, 0)),
                             ((7, 7, 0, 7), (1, 1, 0, 1)), ((9, 9, 9, 9), (0, 0, 0, 0))]:
            self.assertEqual(dense_ranks(ranks), dense)

    def test_all_ranks(self):
        for many in (1, 2, 3):
            for ranks in itertools.product(range(10), repeat=many):
                dense, opposite = dense_ranks(ranks), opposite_ranks(ranks)
                self.assertTrue(is_dense(dense))
                self.assertEqual(opposite, tuple(max(dense) - rank for rank in dense))
                for x, y in itertools.product(range(many), repeat=2):
                    self.assertEqual(ranks[x] < ranks[y], dense[x] < dense[y])

    def test_opposite_ranks(self):
        for ranks, opposite in [((5, 2, 5, 9), (1, 2, 1, 0)), ((0,), (0,)), ((7, 7), (0, 0)), ((0, 9), (1, 0)),
                                ((9, 0, 5), (0, 2, 1)), ((0, 2, 2, 9), (2, 1, 1, 0))]:
            self.assertEqual(opposite_ranks(ranks), opposite)

    def test_wrong_ranks(self):
        for ranks in [(), (0, 1, 2, 3, 4), (0,) * 5, (-1,), (10,), (0, -1), (0, 10), (10, 0, 0, 0), (1, 2, 3, -1),
                      (0, 10 ** 20)]:
            self.refused(OutOfRange, dense_ranks, ranks)
            self.refused(OutOfRange, opposite_ranks, ranks)

    def test_dense_orders(self):
        self.assertEqual(dense_orders(1), ((0,),))
        self.assertEqual(dense_orders(2), ((0, 0), (0, 1), (1, 0)))
        self.assertEqual(dense_orders(3), ((0, 0, 0), (0, 0, 1), (0, 1, 0), (0, 1, 1), (0, 1, 2), (0, 2, 1), (1, 0, 0),
                                           (1, 0, 1), (1, 0, 2), (1, 1, 0), (1, 2, 0), (2, 0, 1), (2, 1, 0)))
        for outcomes, many in [(1, 1), (2, 3), (3, 13), (4, 75)]:
            every = [ranks for ranks in itertools.product(range(outcomes), repeat=outcomes) if is_dense(ranks)]
            self.assertEqual(dense_orders(outcomes), tuple(every))
            self.assertEqual(len(every), many)

    def test_wrong_numbers_of_outcomes(self):
        for outcomes in (0, 5, -1, 10 ** 20):
            self.refused(OutOfRange, dense_orders, outcomes)


class TestOrders(Case):
    def test_best_aims(self):
        for options, outcomes in SMALL_SIZES:
            for ranks in dense_orders(outcomes):
                aim = Aim(("best", tuple(2 * rank + 1 for rank in ranks)), options, outcomes)
                told = (0,) * outcomes if options == 1 else ranks
                self.assertEqual(order_of(aim), told)
                self.assertEqual(order_of(table_aim(aim)), told)

    def test_other_words(self):
        for term, options, outcomes, order in [
            (("any",), 3, 3, (0, 0, 0)), (("second", (4, 9)), 2, 2, (1, 0)), (("second", (4, 9)), 3, 2, (1, 0)),
            (("second", (0, 1, 2)), 3, 3, None), (("most",), 2, 2, (0, 0)), (("most",), 3, 2, None),
            (("fixed",), 2, 2, None), (("like", 0), 2, 2, None), (("among", (1,)), 2, 2, None),
            (("else", ("among", (1,)), ("any",)), 4, 3, (0, 1, 0)), (("only", (0,)), 2, 2, None),
            (("first", ("any",)), 2, 2, None), (("only", ()), 2, 2, None),
        ]:
            self.assertEqual(order_of(Aim(term, options, outcomes)), order, term)

    def test_one_option(self):
        for outcomes in range(1, 5):
            for term in [("any",), ("best", (5,) * (outcomes - 1) + (9,)), ("like", 0), ("only", (0,)), ("most",)]:
                self.assertEqual(order_of(Aim(term, 1, outcomes)), (0,) * outcomes)
            self.assertIsNone(order_of(Aim(("only", ()), 1, outcomes)))
            self.assertIsNone(order_of(Aim(("unlike", 0), 1, outcomes)))
        self.assertIsNone(order_of(Aim(("fixed",), 1, 2)))
        self.assertEqual(order_of(Aim(("fixed",), 1, 1)), (0,))

    def test_different_in_one_context_alone(self):
        for options, outcomes in [(2, 2), (8, 2), (3, 3), (5, 3), (4, 4)]:
            table = term_table(("best", tuple(range(outcomes))), options, outcomes)
            for index in range(0, len(table), 5):
                turned = tuple(x for x in range(options) if x not in table[index])
                rows = table[:index] + (turned,) + table[index + 1:]
                self.assertEqual(order_of(Aim(("table", rows), options, outcomes)), told_order(rows, options, outcomes))

    def test_drawn(self):
        source = random.Random(41)
        for options, outcomes in [(1, 3), (2, 2), (3, 2), (2, 3), (3, 3), (2, 4), (5, 1)]:
            for _ in range(20):
                term = drawn_term(source, options, outcomes, 2)
                told = told_order(term_table(term, options, outcomes), options, outcomes)
                self.assertEqual(order_of(Aim(term, options, outcomes)), told, term)

    def test_too_large(self):
        for options, outcomes in [(9, 1), (9, 2), (6, 3), (5, 4), (64, 4)]:
            self.refused(TooLarge, order_of, Aim(("any",), options, outcomes))
