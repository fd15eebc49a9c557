"""Points 12 and 13: choosers, their products and their powers."""

import operator
import random

from choosersrow.aims import Aim
from choosersrow.choosers import Chooser
from choosersrow.errors import InvalidChooser, InvalidContext, OutOfRange, SizeMismatch, TooLarge
from tests.helpers import SMALL_SIZES, Case, contexts
from tests.oracles import drawn_term, good_options

LARGE_SIZES = [(0, 2), (9, 1), (9, 2), (6, 3), (5, 4), (64, 1), (64, 4), (2, 0), (2, 5), (-1, 2), (2, -1), (0, 0), (9, 5)]


def drawn_chooser(source, options, outcomes):
    return Chooser(options, outcomes, tuple(source.randrange(options) for _ in contexts(options, outcomes)))


def told_product(first, second):
    """Return the row of the product by the words of point 13."""
    many = second.options
    rows = dict(zip(contexts(first.options, first.outcomes), first.row))
    answers = dict(zip(contexts(many, second.outcomes), second.row))
    told = []
    for context in contexts(first.options * many, first.outcomes):
        faced = [context[x * many:x * many + many] for x in range(first.options)]
        answer = [answers[segment] for segment in faced]
        a = rows[tuple(context[x * many + answer[x]] for x in range(first.options))]
        told.append(a * many + answer[a])
    return tuple(told)


class TestCreating(Case):
    def test_attributes(self):
        chooser = Chooser(2, 2, (0, 1, 0, 0))
        self.assertEqual((chooser.options, chooser.outcomes, chooser.row), (2, 2, (0, 1, 0, 0)))

    def test_all_small_sizes(self):
        source = random.Random(1)
        for options, outcomes in SMALL_SIZES:
            chooser = drawn_chooser(source, options, outcomes)
            for context, option in zip(contexts(options, outcomes), chooser.row):
                self.assertEqual(chooser(context), option)

    def test_sizes_that_are_not_small(self):
        for options, outcomes in LARGE_SIZES:
            for row in [(), (0,), (0,) * 256, (9, 9)]:
                self.refused(OutOfRange, Chooser, options, outcomes, row)

    def wrong(self, options, outcomes, row, index):
        self.assertEqual(self.refused(InvalidChooser, Chooser, options, outcomes, row).index, index, row)

    def test_wrong_lengths(self):
        self.wrong(2, 2, (), 0)
        self.wrong(2, 2, (0, 1, 0), 3)
        self.wrong(2, 2, (0, 1, 0, 0, 0), 4)
        self.wrong(2, 2, (0, 1, 0, 0, 9, 9), 4)
        self.wrong(2, 2, (0, 1, 0, 0, 0, 9), 4)
        for options, outcomes in SMALL_SIZES:
            many = outcomes ** options
            self.wrong(options, outcomes, (0,) * (many - 1), many - 1)
            self.wrong(options, outcomes, (0,) * (many + 1), many)

    def test_wrong_entries(self):
        for entry in (2, -1, 99, "a", (), (0,), None, True):
            self.wrong(2, 2, (0, entry, 0, 0), 1)
            self.wrong(2, 2, (0, 0, entry, entry), 2)
            self.wrong(2, 2, (entry, 0), 0)
            self.wrong(2, 2, (0, 0, 0, entry, 0), 3)
            self.wrong(2, 2, (0, 0, 0, 0, entry), 4)

    def test_no_context(self):
        chooser = Chooser(2, 3, (0,) * 9)
        for context in [(), (0,), (0, 1, 2), (0, 3), (3, 0), (-1, 0), [0, 1], "01", None, 1, (0, "a"), (0, (1,)),
                        (True, 0), (0, None)]:
            self.refused(InvalidContext, chooser, context)

    def test_asking_again(self):
        chooser = Chooser(2, 2, (0, 1, 0, 0))
        self.assertEqual([chooser((0, 1)) for _ in range(3)], [1, 1, 1])


class TestMakers(Case):
    def test_constant(self):
        for options, outcomes in SMALL_SIZES:
            for option in range(options):
                chooser = Chooser.constant(options, outcomes, option)
                self.assertIs(type(chooser), Chooser)
                self.assertEqual((chooser.options, chooser.outcomes), (options, outcomes))
                self.assertEqual(chooser.row, (option,) * outcomes ** options)

    def test_constant_out_of_range(self):
        for options, outcomes in LARGE_SIZES:
            self.refused(OutOfRange, Chooser.constant, options, outcomes, 0)
        for option in (-1, 2, 3, 10 ** 20):
            self.refused(OutOfRange, Chooser.constant, 2, 2, option)

    def test_first_good(self):
        source = random.Random(2)
        for options, outcomes in SMALL_SIZES:
            for _ in range(6):
                term = drawn_term(source, options, outcomes, 3)
                chooser = Chooser.first_good(Aim(term, options, outcomes))
                self.assertEqual((chooser.options, chooser.outcomes), (options, outcomes))
                for context, option in zip(contexts(options, outcomes), chooser.row, strict=True):
                    good = good_options(term, context, outcomes)
                    self.assertEqual(option, good[0] if good else 0, term)

    def test_first_good_where_none_is_good(self):
        self.assertEqual(Chooser.first_good(Aim(("only", ()), 2, 2)).row, (0, 0, 0, 0))
        self.assertEqual(Chooser.first_good(Aim(("fixed",), 2, 2)).row, (0, 0, 0, 1))

    def test_first_good_out_of_range(self):
        for options, outcomes in [(9, 1), (9, 2), (6, 3), (5, 4), (64, 4)]:
            self.refused(OutOfRange, Chooser.first_good, Aim(("any",), options, outcomes))


class TestProducts(Case):
    def test_product_by_hand(self):
        best, worst = Chooser(2, 2, (0, 1, 0, 0)), Chooser(2, 2, (0, 0, 1, 0))
        product = best * worst
        self.assertEqual((product.options, product.outcomes), (4, 2))
        # In (0, 1, 1, 1) the second answers 0 and 0; the first faces (0, 1) and answers 1.
        self.assertEqual(product((0, 1, 1, 1)), 2)
        self.assertEqual(product((1, 0, 1, 0)), 1)
        self.assertEqual(product((1, 1, 1, 0)), 0)
        self.assertEqual((worst * best)((0, 1, 1, 0)), 1)
        self.assertEqual((worst * best)((0, 1, 0, 0)), 2)

    def test_products_of_all_small_sizes(self):
        source = random.Random(3)
        for options, outcomes in SMALL_SIZES:
            for many in range(1, 9):
                if (options * many, outcomes) not in SMALL_SIZES:
                    continue
                for _ in range(3):
                    first = drawn_chooser(source, options, outcomes)
                    second = drawn_chooser(source, many, outcomes)
                    product = first * second
                    self.assertIs(type(product), Chooser)
                    self.assertEqual((product.options, product.outcomes), (options * many, outcomes))
                    self.assertEqual(product.row, told_product(first, second))

    def test_unlike_outcomes(self):
        for first, second in [((2, 2), (2, 3)), ((1, 1), (1, 2)), ((8, 2), (8, 1)), ((4, 4), (5, 3))]:
            one, other = Chooser.constant(*first, 0), Chooser.constant(*second, 0)
            self.refused(SizeMismatch, operator.mul, one, other)
            self.refused(SizeMismatch, operator.mul, other, one)

    def test_too_large(self):
        for first, second, outcomes in [(3, 3, 1), (3, 3, 2), (8, 2, 2), (2, 3, 3), (2, 4, 4), (2, 3, 4), (8, 8, 1)]:
            one, other = Chooser.constant(first, outcomes, 0), Chooser.constant(second, outcomes, 0)
            self.refused(TooLarge, operator.mul, one, other)
            self.refused(TooLarge, operator.mul, other, one)

    def test_arguments_stay(self):
        first, second = Chooser(2, 2, (0, 1, 0, 0)), Chooser(1, 2, (0, 0))
        self.assertEqual((first * second).row, (first * second).row)
        self.assertEqual((first.row, second.row), ((0, 1, 0, 0), (0, 0)))


class TestPowers(Case):
    def test_powers(self):
        source = random.Random(4)
        for options, outcomes, most in [(1, 1, 8), (1, 2, 8), (1, 3, 8), (1, 4, 8), (2, 1, 3), (2, 2, 3), (2, 3, 2),
                                        (2, 4, 2), (3, 2, 1), (8, 2, 1)]:
            chooser = drawn_chooser(source, options, outcomes)
            row = chooser.row
            for exponent in range(1, most + 1):
                power = chooser ** exponent
                self.assertIs(type(power), Chooser)
                self.assertEqual((power.options, power.outcomes), (options ** exponent, outcomes))
                self.assertEqual(power.row, row)
                if exponent < most:
                    row = told_product(chooser, Chooser(options ** exponent, outcomes, row))
            if options > 1:
                for exponent in range(most + 1, 9):
                    self.refused(TooLarge, operator.pow, chooser, exponent)

    def test_wrong_exponents(self):
        for chooser in (Chooser.constant(1, 1, 0), Chooser.constant(8, 2, 3)):
            for exponent in (0, 9, -1, 10, 10 ** 20):
                self.refused(OutOfRange, operator.pow, chooser, exponent)
