"""Points 105 to 109: what loose games come to, stand plans, and which of them are optimal."""

import time

from choosersrow.errors import EndlessGame, InvalidPlan, TooLarge
from choosersrow.loosegames import LooseGame, round_way, way_lengths
from choosersrow.loosevalues import is_stand_optimal, require_stand_plan, stand_ends, stand_plans, stand_values
from choosersrow.unfolding import unfold_game, unfolded_plan
from tests.helpers import Case
from tests.looseoracles import (ANY, all_stand_plans, drawn_loose, ladder, led_outcome, loose_text, options_of,
                                told_reached, told_round, told_stand_optimal, told_values)

END = ("end", 0)
# Stand 3 is not reached.
BODY = "(stand 0 (best (0 1)) 1 2) (stand 1 (any) 2 4) (end 0) (stand 0 (any) 3) (end 1)"


def optimal_plans_of(loose):
    return tuple(plan for plan in all_stand_plans(loose.stands)
                 if told_stand_optimal(loose.stands, plan, loose.outcomes))


def small_loose(seed, many):
    return [loose for loose in drawn_loose(seed, many, 8) if len(all_stand_plans(loose.stands)) <= 200]


class TestEndlessGames(Case):
    def test_every_function(self):
        calls = [way_lengths, stand_values, stand_plans, stand_ends, unfold_game]
        with_plans = [require_stand_plan, is_stand_optimal, unfolded_plan]
        for loose in drawn_loose(70, 80, 7, False):
            way = told_round(loose.stands)
            if way is None:
                continue
            for call in calls:
                self.assertEqual(self.refused(EndlessGame, call, loose).way, way)
            for call in with_plans:
                for plan in [(), (0,), (None,) * len(loose.stands), (99,) * len(loose.stands), (0,) * 40]:
                    self.assertEqual(self.refused(EndlessGame, call, loose, plan).way, way)

    def test_ahead_of_too_large(self):
        loose = LooseGame(2, ladder(28, 3, (("stand", 0, ANY, 29, 5), END)))
        for call in [stand_plans, stand_ends, unfold_game, stand_values]:
            self.assertEqual(self.refused(EndlessGame, call, loose).way, round_way(loose))


class TestValues(Case):
    def test_drawn_loose_games(self):
        for loose in drawn_loose(71, 250, 9):
            values = self.asked(stand_values, loose)
            self.assertEqual(values, told_values(loose.stands, loose.outcomes))
            for number, value in enumerate(values):
                self.assertEqual(value is None, number not in told_reached(loose.stands))

    def test_by_hand(self):
        for body, values in [("(end 1)", ((1,),)), ("(end 1) (stand 0 (any) 0)", ((1,), None)),
                             ("(stand 0 (unlike 0) 1 1) (stand 0 (any) 2 3) (end 0) (end 1)", ((0, 1), (0, 1), (0,), (1,))),
                             ("(stand 0 (only ()) 1) (end 1)", ((), (1,))),
                             ("(stand 0 (any) 1 2) (stand 0 (only ()) 2) (end 1)", ((), (), (1,))),
                             (BODY, ((0, 1), (0, 1), (0,), None, (1,)))]:
            self.assertEqual(stand_values(loose_text(body)), values)

    def test_options_with_one_target(self):
        # The two options lead to one stand, and yet their entries may differ.
        loose = loose_text("(stand 0 (fixed) 1 1) (stand 0 (any) 2 3) (end 0) (end 1)")
        self.assertEqual(stand_values(loose), ((0, 1), (0, 1), (0,), (1,)))
        loose = loose_text("(stand 0 (both (unlike 0) (among (1))) 1 1) (stand 0 (any) 2 3) (end 0) (end 1)")
        self.assertEqual(stand_values(loose)[0], (1,))
        self.assertEqual(stand_plans(loose), ())

    def test_very_many_ways(self):
        begin = time.perf_counter()
        last = (("stand", 0, ANY, 28, 29), ("end", 0), ("end", 1))
        self.assertEqual(stand_values(LooseGame(2, ladder(27, 8, last)))[0], (0, 1))
        self.assertLess(time.perf_counter() - begin, 10)


class TestStandPlans(Case):
    def test_require_stand_plan(self):
        for loose in small_loose(72, 60):
            for plan in all_stand_plans(loose.stands)[:20]:
                self.assertIsNone(self.asked(require_stand_plan, loose, plan))

    def test_wrong_plans(self):
        loose = loose_text(BODY)
        right = (1, 0, None, None, None)
        self.assertIsNone(require_stand_plan(loose, right))
        for plan, index in [((), 0), (right[:1], 1), (right[:4], 4), (right + (None,), 5), (right + (0, 0), 5),
                            ((2,) + right[1:], 0), ((-1,) + right[1:], 0), ((None,) + right[1:], 0),
                            ((1, None, None, None, None), 1), ((1, 2, None, None, None), 1), ((1, 0, 0, None, None), 2),
                            ((1, 0, None, 0, None), 3), ((1, 0, None, None, 0), 4), ((0, 10 ** 20, 0, 0), 1),
                            ((1, 0, None, 0), 3), ((None, 9, 0, 0, 0, 0), 0)]:
            for call in (require_stand_plan, is_stand_optimal, unfolded_plan):
                self.assertEqual(self.refused(InvalidPlan, call, loose, plan).index, index, plan)

    def test_wrong_plans_of_drawn_loose_games(self):
        for loose in small_loose(73, 40):
            plan = all_stand_plans(loose.stands)[0]
            reached = told_reached(loose.stands)
            for index, entry in enumerate(plan):
                choosing = index in reached and loose.stands[index][0] == "stand"
                self.assertEqual(entry is None, not choosing)
                wrong = [None, -1, len(options_of(loose.stands[index]))] if choosing else [0, -1]
                for other in wrong:
                    error = self.refused(InvalidPlan, is_stand_optimal, loose, plan[:index] + (other,) + plan[index + 1:])
                    self.assertEqual(error.index, index)
                self.assertEqual(self.refused(InvalidPlan, require_stand_plan, loose, plan[:index]).index, index)
            self.assertEqual(self.refused(InvalidPlan, is_stand_optimal, loose, plan + (None,)).index, len(plan))

    def test_optimal_plans(self):
        for loose in small_loose(74, 120):
            for plan in all_stand_plans(loose.stands):
                self.assertIs(is_stand_optimal(loose, plan), told_stand_optimal(loose.stands, plan, loose.outcomes))
            self.assertEqual(self.asked(stand_plans, loose), optimal_plans_of(loose))

    def test_order_of_plans(self):
        loose = loose_text("(stand 0 (any) 1 3) (stand 0 (any) 2 3 2) (end 0) (end 1)")
        self.assertEqual(stand_plans(loose), tuple((one, other, None, None) for one in range(2) for other in range(3)))

    def test_by_hand(self):
        loose = loose_text("(stand 0 (unlike 0) 1 1) (stand 0 (any) 2 3) (end 0) (end 1)")
        self.assertEqual(stand_plans(loose), ())
        self.assertEqual(stand_ends(loose), ())
        loose = loose_text(BODY)
        self.assertEqual(stand_plans(loose), ((0, 0, None, None, None), (0, 1, None, None, None), (1, 0, None, None, None)))
        self.assertEqual(stand_ends(loose), (0, 1))

    def test_end_stands_alone(self):
        for body, plan in [("(end 1)", (None,)), ("(end 1) (stand 0 (only ()) 0 0) (end 0)", (None,) * 3)]:
            loose = loose_text(body)
            self.assertEqual(stand_plans(loose), (plan,))
            self.assertEqual(stand_ends(loose), (1,))
            self.assertIs(is_stand_optimal(loose, plan), True)

    def test_products(self):
        last = (("stand", 0, ANY, 10, 11), ("end", 0), ("end", 1))
        loose = LooseGame(2, ladder(9, 2, last))
        self.assertEqual(len(stand_plans(loose)), 1024)
        self.assertEqual(stand_ends(loose), (0, 1))
        # The stand that is not reached does not count, and a stand with one option counts 1.
        more = LooseGame(2, loose.stands + (("stand", 0, ANY, 10, 11),) * 18)
        self.assertEqual(len(stand_plans(more)), 1024)
        longer = LooseGame(2, (("stand", 0, ANY, 1),) + tuple(moved(stand) for stand in loose.stands))
        self.assertEqual(len(stand_plans(longer)), 1024)
        wide = LooseGame(2, (("stand", 0, ANY, 1, 1, 1, 1), ("stand", 0, ANY) + (2,) * 8, ("stand", 0, ANY) + (3,) * 8,
                             ("stand", 0, ANY) + (4,) * 4, END))
        self.assertEqual(len(stand_plans(wide)), 1024)
        for stands in [ladder(11), (("stand", 0, ANY, 1, 1),) + tuple(moved(stand) for stand in loose.stands),
                       ladder(4, 6), ladder(29, 8), wide.stands[:3] + (("stand", 0, ANY) + (4,) * 5, END)]:
            self.refused(TooLarge, stand_plans, LooseGame(2, stands))
            self.refused(TooLarge, stand_ends, LooseGame(2, stands))

    def test_large_loose_games_still_have_values_and_plans(self):
        loose = LooseGame(2, ladder(29, 8))
        plan = (3,) * 29 + (None,)
        self.assertIsNone(require_stand_plan(loose, plan))
        self.assertIs(is_stand_optimal(loose, plan), True)
        self.assertEqual(stand_values(loose), ((0,),) * 30)


def moved(stand):
    """Return the stand with targets that are greater by one."""
    return stand if stand[0] == "end" else stand[:3] + tuple(target + 1 for target in stand[3:])


class TestStandEnds(Case):
    def test_drawn_loose_games(self):
        for loose in small_loose(75, 120):
            told = {led_outcome(loose.stands, plan, 0) for plan in optimal_plans_of(loose)}
            self.assertEqual(self.asked(stand_ends, loose), tuple(sorted(told)))
            self.assertLessEqual(set(stand_ends(loose)), set(stand_values(loose)[0]))
