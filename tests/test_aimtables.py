"""Points 21 to 24: tables of aims."""

import random

from choosersrow.aims import Aim
from choosersrow.aimtables import (aim_table, fair_core, fair_hull, is_fair, is_within, parting_context, table_aim,
                                   unmet_context)
from choosersrow.errors import SizeMismatch, TooLarge
from tests.helpers import SMALL_SIZES, Case, contexts
from tests.oracles import drawn_part, drawn_term, term_table

ONE = [aim_table, table_aim, unmet_context, is_fair, fair_hull, fair_core]
TWO = [parting_context, is_within]
NOT_SMALL = [(9, 1), (9, 2), (6, 3), (5, 4), (64, 1), (64, 4)]
DEEP = ("not", ("not", ("not", ("not", ("not", ("like", 0))))))


def drawn_aims(seed, many):
    """Yield aims of small sizes, each with its table."""
    source = random.Random(seed)
    for options, outcomes in SMALL_SIZES:
        for _ in range(many):
            term = drawn_term(source, options, outcomes, source.randrange(1, 7))
            yield Aim(term, options, outcomes), term_table(term, options, outcomes)


def other_row(table, index, row):
    return table[:index] + (row,) + table[index + 1:]


def told_fair(aim, table):
    for context, good in zip(contexts(aim.options, aim.outcomes), table):
        for x in range(aim.options):
            for y in range(aim.options):
                if context[x] == context[y] and (x in good) != (y in good):
                    return False
    return True


class TestTables(Case):
    def test_tables(self):
        for aim, table in drawn_aims(30, 6):
            self.assertEqual(aim_table(aim), table)
            made = table_aim(aim)
            self.assertIs(type(made), Aim)
            self.assertEqual((made.term, made.options, made.outcomes), (("table", table), aim.options, aim.outcomes))
            self.assertEqual(aim_table(made), table)

    def test_refusals_of_one_aim(self):
        for options, outcomes in NOT_SMALL:
            for term in [("any",), DEEP]:
                for call in ONE:
                    self.refused(TooLarge, call, Aim(term, options, outcomes))

    def test_refusals_of_two_aims(self):
        small = Aim(("any",), 2, 2)
        for options, outcomes in NOT_SMALL:
            large = Aim(("any",), options, outcomes)
            for call in TWO:
                self.refused(TooLarge, call, large, Aim(("most",), options, outcomes))
                self.refused(SizeMismatch, call, large, small)
                self.refused(SizeMismatch, call, small, large)
                self.refused(SizeMismatch, call, large, Aim(("any",), options - 1, outcomes))
        for options, outcomes in [(1, 2), (3, 2), (2, 1), (2, 3), (1, 4)]:
            for call in TWO:
                self.refused(SizeMismatch, call, small, Aim(("any",), options, outcomes))
        self.refused(SizeMismatch, parting_context, Aim(("any",), 64, 4), Aim(("any",), 63, 4))


class TestUnmetAndParting(Case):
    def test_unmet(self):
        self.assertEqual(unmet_context(Aim(("fixed",), 2, 2)), (1, 0))
        self.assertIsNone(unmet_context(Aim(("any",), 2, 2)))
        self.assertEqual(unmet_context(Aim(("only", ()), 3, 2)), (0, 0, 0))
        self.assertEqual(unmet_context(Aim(("unlike", 1), 3, 2)), (0, 0, 0))
        self.assertIsNone(unmet_context(Aim(DEEP[1], 8, 2)))
        self.assertEqual(unmet_context(Aim(("among", (2,)), 2, 3)), (0, 0))

    def test_unmet_in_one_context_alone(self):
        for options, outcomes in SMALL_SIZES:
            all_contexts = contexts(options, outcomes)
            for index in {0, len(all_contexts) // 2, len(all_contexts) - 1}:
                rows = other_row(((options - 1,),) * len(all_contexts), index, ())
                self.assertEqual(unmet_context(Aim(("table", rows), options, outcomes)), all_contexts[index])

    def test_drawn(self):
        for aim, table in drawn_aims(31, 6):
            empty = [context for context, good in zip(contexts(aim.options, aim.outcomes), table) if not good]
            self.assertEqual(unmet_context(aim), empty[0] if empty else None)

    def test_one_meaning_in_other_words(self):
        for first, second in [(("any",), ("not", ("only", ()))), (("like", 0), ("not", ("unlike", 0))),
                              (("best", (0, 9, 3)), ("best", (1, 8, 2))), (("among", (0, 1, 2)), ("any",)),
                              (("first", ("any",)), ("only", (0,)))]:
            for options in range(1, 6):
                one, other = Aim(first, options, 3), Aim(second, options, 3)
                self.assertIsNone(parting_context(one, other))
                self.assertIsNone(parting_context(one, table_aim(other)))
                self.assertTrue(is_within(one, other))
                self.assertTrue(is_within(other, one))

    def test_parting_in_one_context_alone(self):
        source = random.Random(32)
        for options, outcomes in SMALL_SIZES:
            table = tuple(drawn_part(source, options) for _ in contexts(options, outcomes))
            one = Aim(("table", table), options, outcomes)
            for index, context in enumerate(contexts(options, outcomes)):
                if index % 7 and index + 1 < len(table):
                    continue
                turned = tuple(x for x in range(options) if (x in table[index]) != (x == options - 1))
                other = Aim(("table", other_row(table, index, turned)), options, outcomes)
                self.assertEqual(parting_context(one, other), context)
                self.assertEqual(parting_context(other, one), context)
                self.assertEqual(is_within(one, other), options - 1 in turned)
                self.assertEqual(is_within(other, one), options - 1 not in turned)

    def test_first_of_several(self):
        self.assertEqual(parting_context(Aim(("any",), 2, 2), Aim(("fixed",), 2, 2)), (0, 0))
        self.assertEqual(parting_context(Aim(("best", (0, 1)), 2, 2), Aim(("best", (1, 0)), 2, 2)), (0, 1))

    def test_within_drawn(self):
        source = random.Random(33)
        for _ in range(200):
            options, outcomes = source.choice(SMALL_SIZES)
            first, second = [drawn_term(source, options, outcomes, 2) for _ in range(2)]
            one, other = term_table(first, options, outcomes), term_table(second, options, outcomes)
            told = all(set(good) <= set(wide) for good, wide in zip(one, other))
            self.assertIs(is_within(Aim(first, options, outcomes), Aim(second, options, outcomes)), told)

    def test_within_ends(self):
        none, every, some = Aim(("only", ()), 3, 2), Aim(("any",), 3, 2), Aim(("like", 1), 3, 2)
        for aim in (none, some, every):
            self.assertTrue(is_within(aim, aim))
            self.assertTrue(is_within(none, aim))
            self.assertTrue(is_within(aim, every))
        self.assertFalse(is_within(some, none))
        self.assertFalse(is_within(every, some))


class TestFairness(Case):
    def test_example(self):
        rows = tuple((0, 2) if context == (1, 1, 0) else () for context in contexts(3, 2))
        aim = Aim(("table", rows), 3, 2)
        self.assertEqual(fair_hull(aim).good((1, 1, 0)), (0, 1, 2))
        self.assertEqual(fair_core(aim).good((1, 1, 0)), (2,))
        self.assertFalse(is_fair(aim))

    def test_fair_words(self):
        for term in [("any",), ("best", (0, 3, 3)), ("second", (2, 0, 1)), ("most",), ("fewest",), ("like", 1),
                     ("unlike", 2), ("among", (1,)), ("only", ()), ("only", (0, 1, 2))]:
            aim = Aim(term, 3, 3)
            self.assertIs(is_fair(aim), True, term)
            self.assertEqual(fair_hull(aim).term, ("table", aim_table(aim)))
            self.assertEqual(fair_core(aim).term, ("table", aim_table(aim)))

    def test_words_that_are_not_fair(self):
        for term in [("fixed",), ("only", (0,)), ("only", (0, 2)), ("first", ("any",)), ("first", ("most",))]:
            self.assertIs(is_fair(Aim(term, 3, 3)), False, term)
        self.assertEqual(fair_hull(Aim(("only", (1,)), 2, 2)).term, ("table", ((0, 1), (1,), (1,), (0, 1))))
        self.assertEqual(fair_core(Aim(("only", (1,)), 2, 2)).term, ("table", ((), (1,), (1,), ())))

    def test_deepest_aims(self):
        aim = Aim(("either", DEEP[1], ("first", ("most",))), 3, 2)
        self.assertEqual(fair_core(aim).options, 3)
        self.assertEqual(fair_hull(Aim(DEEP, 2, 2)).term, ("table", term_table(DEEP, 2, 2)))
        self.assertEqual(fair_core(Aim(DEEP, 2, 2)).term, ("table", term_table(DEEP, 2, 2)))

    def test_drawn(self):
        for aim, table in drawn_aims(34, 8):
            self.assertIs(is_fair(aim), told_fair(aim, table))
            hull, core = [], []
            for context, good in zip(contexts(aim.options, aim.outcomes), table):
                alike = {x: [y for y in range(aim.options) if context[y] == context[x]] for x in range(aim.options)}
                hull.append(tuple(x for x in alike if any(y in good for y in alike[x])))
                core.append(tuple(x for x in alike if all(y in good for y in alike[x])))
            for made, rows in [(fair_hull(aim), hull), (fair_core(aim), core)]:
                self.assertIs(type(made), Aim)
                self.assertEqual(made.term, ("table", tuple(rows)))
                self.assertEqual((made.options, made.outcomes), (aim.options, aim.outcomes))
