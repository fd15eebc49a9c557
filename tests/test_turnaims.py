"""Points 35 to 37: aims in turn."""

import itertools
import random

from choosersrow.aims import Aim
from choosersrow.aimtables import table_aim
from choosersrow.choosers import Chooser
from choosersrow.errors import InvalidContext, NotGood, SizeMismatch, TooLarge
from choosersrow.turnaims import aim_behind, aims_in_turn, choosers_to
from choosersrow.turns import put_behind
from tests.helpers import SMALL_SIZES, Case, contexts
from tests.oracles import drawn_term, good_options
from tests.test_turns import pairs_of

BEST = Aim(("best", (0, 1)), 2, 2)
WORST = Aim(("best", (1, 0)), 2, 2)
ONE = Aim(("any",), 1, 2)
NONE = Aim(("only", ()), 2, 2)
SHAPES = [((1,), 2), ((3,), 2), ((2, 1), 2), ((1, 2), 2), ((2, 2), 2), ((3, 2), 2), ((1, 2, 3), 2), ((2, 2), 3),
          ((1, 1, 2), 3), ((2, 2), 4), ((1, 3), 4), ((3, 2, 3), 1), ((2, 2, 2, 2), 2), ((1,) * 5, 3)]


def aim_of(term, options, outcomes):
    return Aim(term, options, outcomes)


def drawn_aims(source, sizes, outcomes):
    first = aim_of(drawn_term(source, len(sizes), outcomes, 2), len(sizes), outcomes)
    return first, tuple(aim_of(drawn_term(source, size, outcomes, 2), size, outcomes) for size in sizes)


def told_answers(first, nexts, context):
    """Yield the answers, in ascending order, each with the segments, its context and the good options in it."""
    pairs = pairs_of([aim.options for aim in nexts])
    segments = [tuple(context[flat] for flat, pair in enumerate(pairs) if pair[0] == z) for z in range(len(nexts))]
    goods = [good_options(aim.term, segment, aim.outcomes) for aim, segment in zip(nexts, segments)]
    for b in itertools.product(*goods):
        faced = tuple(segment[answer] for segment, answer in zip(segments, b))
        yield b, segments, faced, good_options(first.term, faced, first.outcomes)


def told_good(first, nexts, context):
    pairs = pairs_of([aim.options for aim in nexts])
    return tuple(flat for flat, (x, y) in enumerate(pairs)
                 if any(b[x] == y and x in good for b, _, _, good in told_answers(first, nexts, context)))


def told_chooser(aim, context, option):
    """Return the row of the chooser that picks the option in the context and elsewhere the least good one."""
    row = []
    for other in contexts(aim.options, aim.outcomes):
        good = good_options(aim.term, other, aim.outcomes)
        row.append(option if other == context else good[0] if good else 0)
    return tuple(row)


class TestAimBehind(Case):
    def test_drawn(self):
        source = random.Random(80)
        for sizes, outcomes in SHAPES:
            for _ in range(8):
                first, nexts = drawn_aims(source, sizes, outcomes)
                aim = aim_behind(first, nexts)
                self.assertIs(type(aim), Aim)
                self.assertEqual((aim.options, aim.outcomes, aim.term[0]), (sum(sizes), outcomes, "table"))
                rows = tuple(told_good(first, nexts, context) for context in contexts(sum(sizes), outcomes))
                self.assertEqual(aim.term, ("table", rows))

    def test_no_answers(self):
        aim = aim_behind(BEST, (BEST, NONE))
        self.assertEqual(aim.term, ("table", ((),) * 16))
        fixed = Aim(("fixed",), 2, 2)
        self.assertEqual(aim_behind(BEST, (fixed, BEST)).good((1, 0, 1, 1)), ())
        self.assertEqual(aim_behind(NONE, (BEST, BEST)).term, ("table", ((),) * 16))

    def test_choosers_that_meet_the_aims(self):
        source = random.Random(81)
        for sizes, outcomes in SHAPES:
            for _ in range(4):
                first, nexts = drawn_aims(source, sizes, outcomes)
                behind = tuple(Chooser.first_good(aim) for aim in nexts)
                chooser = put_behind(Chooser.first_good(first), behind)
                aim = aim_behind(first, nexts)
                for context in contexts(sum(sizes), outcomes):
                    if all(good for _, _, _, good in told_answers(first, nexts, context)) and aim.good(context):
                        self.assertIn(chooser(context), aim.good(context))

    def test_wrong_numbers_and_outcomes(self):
        large, other = Aim(("any",), 64, 2), Aim(("any",), 1, 3)
        for nexts in [(), (BEST,), (BEST,) * 3, (large,), (large,) * 3, (other, BEST), (BEST, other), (large, other),
                      (other, large), (other, other), (Aim(("any",), 2, 1), BEST)]:
            self.refused(SizeMismatch, aim_behind, BEST, nexts)
            for context, option in [((0,) * 4, 0), (None, 0), ((0, 0, 0, 0), 99)]:
                self.refused(SizeMismatch, choosers_to, BEST, nexts, context, option)
        self.refused(SizeMismatch, aim_behind, large, (BEST,) * 63)
        self.refused(SizeMismatch, aim_behind, large, (ONE,) * 63 + (other,))

    def test_too_large(self):
        for first, nexts in [(BEST, (Aim(("any",), 8, 2), ONE)), (BEST, (ONE, Aim(("any",), 64, 2))),
                             (Aim(("any",), 9, 2), (ONE,) * 9), (Aim(("any",), 64, 4), (Aim(("any",), 64, 4),) * 64),
                             (Aim(("any",), 1, 4), (Aim(("any",), 5, 4),)), (Aim(("any",), 9, 1), (Aim(("any",), 1, 1),) * 9)]:
            self.refused(TooLarge, aim_behind, first, nexts)
            for context, option in [(None, 0), ((0, 0), 99), ((0,) * sum(aim.options for aim in nexts), -1)]:
                self.refused(TooLarge, choosers_to, first, nexts, context, option)


class TestAimsInTurn(Case):
    def test_one_alone(self):
        source = random.Random(82)
        for options, outcomes in SMALL_SIZES:
            aim = aim_of(drawn_term(source, options, outcomes, 3), options, outcomes)
            alone = aims_in_turn(aim)
            self.assertEqual((alone.term, alone.options, alone.outcomes), (table_aim(aim).term, options, outcomes))

    def test_two_and_three(self):
        source = random.Random(83)
        for sizes, outcomes in [((2, 2), 2), ((2, 4), 2), ((4, 2), 2), ((1, 3), 2), ((2, 2), 3), ((2, 2), 4), ((3, 2), 1),
                                ((2, 2, 2), 2), ((1, 2, 2), 3), ((2, 1, 4), 2), ((4, 1, 1), 4), ((1, 2, 1, 2), 4)]:
            for _ in range(4):
                aims = [aim_of(drawn_term(source, size, outcomes, 2), size, outcomes) for size in sizes]
                told = table_aim(aims[-1])
                for aim in aims[-2::-1]:
                    nexts = (told,) * aim.options
                    rows = tuple(told_good(aim, nexts, context)
                                 for context in contexts(aim.options * told.options, outcomes))
                    told = Aim(("table", rows), aim.options * told.options, outcomes)
                joined = aims_in_turn(*aims)
                self.assertIs(type(joined), Aim)
                self.assertEqual((joined.term, joined.options, joined.outcomes), (told.term, told.options, outcomes))

    def test_refusals(self):
        large, other = Aim(("any",), 64, 2), Aim(("any",), 1, 3)
        for aims in [(BEST, other), (other, BEST), (BEST, BEST, other), (other, BEST, BEST), (BEST, other, BEST),
                     (large, other), (other, large, large), (large, large, other), (large, other, large)]:
            self.refused(SizeMismatch, aims_in_turn, *aims)
        for aims in [(large,), (Aim(("any",), 9, 2),), (Aim(("any",), 5, 4),), (BEST,) * 4, (large, ONE), (ONE, large),
                     (BEST, Aim(("any",), 5, 2)), (Aim(("any",), 3, 3), Aim(("any",), 2, 3)), (Aim(("any",), 9, 1),),
                     (ONE, large, ONE)]:
            self.refused(TooLarge, aims_in_turn, *aims)


class TestChoosersTo(Case):
    def test_drawn(self):
        source = random.Random(84)
        found = 0
        for sizes, outcomes in SHAPES:
            for _ in range(5):
                first, nexts = drawn_aims(source, sizes, outcomes)
                every = contexts(sum(sizes), outcomes)
                for context in source.sample(every, min(8, len(every))):
                    good = told_good(first, nexts, context)
                    found += len(good)
                    for option in range(sum(sizes)):
                        if option in good:
                            self.check(first, nexts, context, option)
                        else:
                            self.refused(NotGood, choosers_to, first, nexts, context, option)
        self.assertGreater(found, 400)

    def check(self, first, nexts, context, option):
        x, y = pairs_of([aim.options for aim in nexts])[option]
        b, segments, faced, _ = next(told for told in told_answers(first, nexts, context)
                                     if told[0][x] == y and x in told[3])
        made = choosers_to(first, nexts, context, option)
        self.assertIs(type(made), tuple)
        chooser, behind = made
        self.assertIs(type(behind), tuple)
        self.assertEqual((chooser.options, chooser.outcomes), (first.options, first.outcomes))
        self.assertEqual(chooser.row, told_chooser(first, faced, x))
        self.assertEqual(len(behind), len(nexts))
        for z, aim in enumerate(nexts):
            self.assertIs(type(behind[z]), Chooser)
            self.assertEqual((behind[z].options, behind[z].outcomes), (aim.options, aim.outcomes))
            self.assertEqual(behind[z].row, told_chooser(aim, segments[z], b[z]))
        self.assertEqual(put_behind(chooser, behind)(context), option)

    def test_first_answers(self):
        worth = Aim(("any",), 2, 2)
        chooser, behind = choosers_to(WORST, (worth, worth), (1, 0, 0, 1), 2)
        self.assertEqual((chooser.row, behind[0].row, behind[1].row),
                         ((0, 0, 1, 0), (0, 0, 0, 0), (0, 0, 0, 0)))
        chooser, behind = choosers_to(WORST, (worth, worth), (1, 0, 0, 1), 3)
        self.assertEqual((chooser.row, behind[0].row, behind[1].row),
                         ((0, 0, 1, 1), (0, 0, 0, 0), (0, 1, 0, 0)))

    def test_none_good_elsewhere(self):
        fixed = Aim(("fixed",), 2, 2)
        chooser, behind = choosers_to(fixed, (ONE, fixed), (0, 1, 1), 0)
        self.assertEqual((chooser.row, behind[1].row), ((0, 0, 0, 1), (0, 0, 0, 1)))

    def test_no_context(self):
        for context in [(), (0, 1), (0, 1, 1, 1), (0, 1, 2), (-1, 0, 0), [0, 1, 1], None, "011", (0, "a", 1),
                        (0, 1, True)]:
            for option in (0, 1, 99, -1):
                self.refused(InvalidContext, choosers_to, BEST, (BEST, ONE), context, option)

    def test_not_good(self):
        self.assertEqual(aim_behind(BEST, (BEST, ONE)).good((0, 1, 1)), (1, 2))
        for option in (-1, -2, 0, 3, 4, 10 ** 20):
            self.refused(NotGood, choosers_to, BEST, (BEST, ONE), (0, 1, 1), option)
        for option in range(-1, 5):
            self.refused(NotGood, choosers_to, BEST, (NONE, BEST), (0, 1, 1, 1), option)
