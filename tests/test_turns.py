"""Points 31 to 34: choosers in turn."""

import random

from choosersrow.choosers import Chooser
from choosersrow.errors import InvalidContext, OutOfRange, SizeMismatch, TooLarge
from choosersrow.turns import faced_context, join_option, put_behind, put_in_turn, split_option
from tests.helpers import SMALL_SIZES, Case, contexts
from tests.test_choosers import drawn_chooser

HUGE = (10 ** 20, 1, 10 ** 30, 7)


def pairs_of(sizes):
    return [(x, y) for x, size in enumerate(sizes) for y in range(size)]


def told_behind(first, nexts, context):
    """Return the context that the first faces and the flat option that is picked, by the words of point 32."""
    pairs = pairs_of([chooser.options for chooser in nexts])
    answers, faced = [], []
    for z, chooser in enumerate(nexts):
        segment = tuple(context[flat] for flat, pair in enumerate(pairs) if pair[0] == z)
        answers.append(chooser.row[contexts(chooser.options, chooser.outcomes).index(segment)])
        faced.append(segment[answers[z]])
    x = first.row[contexts(first.options, first.outcomes).index(tuple(faced))]
    return tuple(faced), pairs.index((x, answers[x]))


class TestFlatOptions(Case):
    def test_all_ways_round(self):
        for sizes in [(1,), (5,), (2, 1), (1, 2), (1, 1, 1), (3, 1, 4, 1, 5)]:
            for option, pair in enumerate(pairs_of(sizes)):
                self.assertEqual(split_option(sizes, option), pair)
                self.assertEqual(join_option(sizes, pair), option)
            for option in (-1, sum(sizes), sum(sizes) + 1, 10 ** 20):
                self.refused(OutOfRange, split_option, sizes, option)
            for x, size in enumerate(sizes):
                for pair in [(x, -1), (x, size), (x, size + 1)]:
                    self.refused(OutOfRange, join_option, sizes, pair)
            for pair in [(-1, 0), (len(sizes), 0), (-len(sizes), 0), (10 ** 20, 0), (-1, -1)]:
                self.refused(OutOfRange, join_option, sizes, pair)

    def test_empty_sizes(self):
        for number in (-1, 0, 1):
            self.refused(OutOfRange, split_option, (), number)
            self.refused(OutOfRange, join_option, (), (number, 0))

    def test_huge_sizes(self):
        ends = [(0, (0, 0)), (10 ** 20 - 1, (0, 10 ** 20 - 1)), (10 ** 20, (1, 0)), (10 ** 20 + 1, (2, 0)),
                (10 ** 20 + 10 ** 30, (2, 10 ** 30 - 1)), (10 ** 20 + 10 ** 30 + 1, (3, 0)),
                (10 ** 20 + 10 ** 30 + 7, (3, 6)), (10 ** 20 + 12345, (2, 12344))]
        for option, pair in ends:
            self.assertEqual(split_option(HUGE, option), pair)
            self.assertEqual(join_option(HUGE, pair), option)
        for option in (-1, sum(HUGE), 10 ** 40):
            self.refused(OutOfRange, split_option, HUGE, option)
        for pair in [(0, 10 ** 20), (1, 1), (2, 10 ** 30), (3, 7), (4, 0), (0, -1)]:
            self.refused(OutOfRange, join_option, HUGE, pair)

    def test_by_position_alone(self):
        with self.assertRaises(TypeError):
            split_option(sizes=(2, 1), option=0)
        with self.assertRaises(TypeError):
            join_option((2, 1), pair=(0, 0))


class TestPutBehind(Case):
    def test_drawn(self):
        source = random.Random(60)
        done = 0
        for options, outcomes in SMALL_SIZES * 6:
            sizes = [source.randrange(1, 5) for _ in range(options)]
            if (sum(sizes), outcomes) not in SMALL_SIZES:
                sizes = [1] * options
            first = drawn_chooser(source, options, outcomes)
            nexts = tuple(drawn_chooser(source, size, outcomes) for size in sizes)
            chooser = put_behind(first, nexts)
            self.assertIs(type(chooser), Chooser)
            self.assertEqual((chooser.options, chooser.outcomes), (sum(sizes), outcomes))
            for context, option in zip(contexts(sum(sizes), outcomes), chooser.row, strict=True):
                faced, flat = told_behind(first, nexts, context)
                self.assertEqual(option, flat)
                self.assertEqual(faced_context(first, nexts, context), faced)
            done += len(set(sizes)) > 1
        self.assertGreater(done, 10)

    def test_product(self):
        source = random.Random(61)
        for options, many, outcomes in [(2, 2, 2), (2, 4, 2), (4, 2, 2), (2, 2, 3), (2, 2, 4), (1, 5, 3), (5, 1, 3)]:
            first, second = drawn_chooser(source, options, outcomes), drawn_chooser(source, many, outcomes)
            self.assertEqual(put_behind(first, (second,) * options).row, (first * second).row)

    def test_wrong_numbers(self):
        first, one = Chooser.constant(2, 2, 0), Chooser.constant(1, 2, 0)
        wide = Chooser.constant(8, 2, 0)
        for nexts in [(), (one,), (one,) * 3, (wide,), (wide,) * 3]:
            self.refused(SizeMismatch, put_behind, first, nexts)
            for context in [(0,) * len(nexts), (0, 0), None, (9,)]:
                self.refused(SizeMismatch, faced_context, first, nexts, context)

    def test_other_outcomes(self):
        first, one, wide = Chooser.constant(2, 2, 0), Chooser.constant(1, 2, 0), Chooser.constant(8, 2, 0)
        for other in (Chooser.constant(1, 1, 0), Chooser.constant(1, 3, 0), Chooser.constant(4, 4, 0)):
            for nexts in [(other, one), (one, other), (other, other), (wide, other), (other, wide)]:
                self.refused(SizeMismatch, put_behind, first, nexts)
                self.refused(SizeMismatch, faced_context, first, nexts, (0, 0))
                self.refused(SizeMismatch, faced_context, first, nexts, None)

    def test_too_large(self):
        for options, sizes, outcomes in [(2, (8, 1), 2), (2, (1, 8), 2), (1, (5,), 3), (2, (4, 2), 3), (3, (3, 3, 3), 1),
                                         (4, (1, 1, 1, 2), 4), (8, (8,) * 8, 2)]:
            first = Chooser.constant(options, outcomes, 0)
            nexts = tuple(Chooser.constant(size, outcomes, 0) for size in sizes)
            if (sum(sizes), outcomes) in SMALL_SIZES:
                put_behind(first, nexts)
            else:
                self.refused(TooLarge, put_behind, first, nexts)

    def test_arguments_stay(self):
        first, one = Chooser(2, 2, (0, 1, 0, 0)), Chooser(1, 2, (0, 0))
        self.assertEqual(put_behind(first, (first, one)).row, put_behind(first, (first, one)).row)
        self.assertEqual((first.row, one.row), ((0, 1, 0, 0), (0, 0)))


class TestFacedContext(Case):
    def test_many_flat_options(self):
        source = random.Random(62)
        first = drawn_chooser(source, 8, 2)
        nexts = tuple(drawn_chooser(source, 8, 2) for _ in range(8))
        for _ in range(60):
            context = tuple(source.randrange(2) for _ in range(64))
            self.assertEqual(faced_context(first, nexts, context), told_behind(first, nexts, context)[0])
        self.refused(TooLarge, put_behind, first, nexts)

    def test_no_context(self):
        first, one = Chooser(2, 2, (0, 1, 0, 0)), Chooser(1, 2, (0, 0))
        for context in [(), (0, 1), (0, 1, 0, 0), (0, 1, 2), (-1, 1, 0), [0, 1, 0], None, "010", 3, (0, "a", 0),
                        (0, (0,), 1), (True, 0, 0)]:
            self.refused(InvalidContext, faced_context, first, (first, one), context)


class TestPutInTurn(Case):
    def test_products(self):
        source = random.Random(63)
        for sizes, outcomes in [((2, 2), 2), ((2, 4), 2), ((2, 2, 2), 2), ((1, 3, 2), 2), ((2, 1, 2), 3),
                                ((4, 1, 1), 4), ((1, 1, 1, 1), 4), ((2, 2, 2), 1), ((1, 2, 1, 2, 1, 2), 2)]:
            choosers = [drawn_chooser(source, size, outcomes) for size in sizes]
            told = choosers[-1]
            for chooser in choosers[-2::-1]:
                told = chooser * told
            joined = put_in_turn(*choosers)
            self.assertIs(type(joined), Chooser)
            self.assertEqual((joined.options, joined.outcomes, joined.row), (told.options, outcomes, told.row))

    def test_from_the_last_one(self):
        source = random.Random(64)
        for _ in range(10):
            a, b, c = [drawn_chooser(source, 2, 2) for _ in range(3)]
            self.assertEqual(put_in_turn(a, b, c).row, (a * (b * c)).row)

    def test_one_alone(self):
        source = random.Random(65)
        for options, outcomes in SMALL_SIZES:
            chooser = drawn_chooser(source, options, outcomes)
            alone = put_in_turn(chooser)
            self.assertEqual((alone.options, alone.outcomes, alone.row), (options, outcomes, chooser.row))

    def test_refusals(self):
        two, wide, other = Chooser.constant(2, 2, 0), Chooser.constant(8, 2, 0), Chooser.constant(1, 3, 0)
        for choosers in [(two, other), (other, two), (two, two, other), (other, two, two), (two, other, two),
                         (wide, wide, other), (other, wide, wide), (wide, other, wide), (two, wide, Chooser.constant(1, 1, 0))]:
            self.refused(SizeMismatch, put_in_turn, *choosers)
        one = Chooser.constant(1, 2, 0)
        for choosers in [(two, wide), (wide, two), (two, two, two, two), (wide, one, two), (one, wide, two),
                         (Chooser.constant(3, 3, 0), Chooser.constant(2, 3, 0))]:
            self.refused(TooLarge, put_in_turn, *choosers)
        self.assertEqual(put_in_turn(one, wide, one).row, wide.row)
