"""Points 53 to 56 and 60: counting, numbering and finding optimal plans."""

import inspect
import itertools
import math
import random

from choosersrow.counting import (count_from, count_plans, mended_plan, plan_at, plan_index, plan_to, plans_from)
from choosersrow.errors import InvalidPlan, NotOptimal, OutOfRange
from choosersrow.games import Game
from choosersrow.plays import faulty_nodes, is_optimal, play_out
from tests.gameoracles import (all_plans, chain, drawn_games, ends_of, large_game, nodes_of, told_faulty, told_leaf,
                               told_optimal)
from tests.helpers import Case
from tests.test_plays import LEAF, MANY, ONE, wrong_plans

NONE = Game(2, ("node", 0, ("any",), ("node", 1, ("only", ()), ("end", 0), ("end", 1)), ("end", 1)))
FIXED = Game(2, ("node", 0, ("fixed",), ("node", 0, ("any",), ("end", 1), ("end", 0)), ("end", 0)))


def told_counts(game, prefix):
    counts = [0] * game.outcomes
    for plan in told_optimal(game.tree, game.outcomes):
        if plan[:len(prefix)] == prefix:
            counts[ends_of(game.tree)[told_leaf(game.tree, plan)]] += 1
    return tuple(counts)


def differing(first, second):
    return sum(one != other for one, other in zip(first, second, strict=True))


def told_mended(game, plan):
    plans = told_optimal(game.tree, game.outcomes)
    return min(plans, key=lambda other: (differing(other, plan), other), default=None)


def joined_game():
    """Return a game with very many plans behind one node that is free to choose, and its parts."""
    parts = [game for game in drawn_games(40, 60, 150) if game.outcomes == 3 and game.plans > 10
             and told_optimal(game.tree, 3)][:4]
    return Game(3, ("node", 0, ("any",)) + tuple(part.tree for part in parts)), parts


class TestCounts(Case):
    def test_drawn_games(self):
        found = 0
        for game in drawn_games(41, 100):
            counts = self.asked(count_plans, game)
            self.assertEqual(counts, told_counts(game, ()))
            found += sum(counts) > 1
        self.assertGreater(found, 20)

    def test_prefixes_of_drawn_games(self):
        for game in drawn_games(42, 60, 60):
            prefixes = {plan[:length] for plan in all_plans(game.tree) for length in range(len(plan) + 1)}
            for prefix in sorted(prefixes):
                self.assertEqual(count_from(game, prefix), told_counts(game, prefix))
            self.assertEqual(self.asked(count_from, game, ()), count_plans(game))

    def test_no_nodes_and_no_optimal_plans(self):
        self.assertEqual(count_plans(Game(3, ("end", 1))), (0, 1, 0))
        self.assertEqual(count_from(Game(3, ("end", 1)), ()), (0, 1, 0))
        self.assertEqual(count_plans(NONE), (0, 0))
        for prefix in [(), (0,), (1,), (1, 1)]:
            self.assertEqual(count_from(NONE, prefix), (0, 0))
        self.assertEqual(count_plans(FIXED), (1, 0))
        self.assertEqual(count_from(FIXED, (0,)), (1, 0))
        self.assertEqual(count_from(FIXED, (1,)), (0, 0))

    def test_wrong_prefixes(self):
        for game in (LEAF, ONE, MANY, NONE):
            for prefix, index in wrong_plans(game):
                if index < len(prefix):
                    self.assertEqual(self.refused(InvalidPlan, count_from, game, prefix).index, index)
                else:
                    # A tuple that ends too early is no plan, but a prefix.
                    self.assertEqual(count_from(game, prefix), told_counts(game, prefix))

    def test_large_games(self):
        game = large_game("any")
        self.assertEqual(sum(count_plans(game)), 2 * 3 ** 29)
        for prefix in [(0,), (1, 2), (2, 1, 0, 1), (0,) * 30]:
            below = math.prod(node.aim.options for node in game.nodes[len(prefix):])
            self.assertEqual(sum(count_from(game, prefix)), below)
        whole = tuple(node.aim.options - 1 for node in game)
        self.assertEqual(count_from(game, whole)[play_out(game, whole)[1]], 1)
        for prefix, index in wrong_plans(game):
            if index < len(prefix):
                self.assertEqual(self.refused(InvalidPlan, count_from, game, prefix).index, index)

    def test_many_plans(self):
        game, parts = joined_game()
        self.assertGreater(game.plans, 10 ** 6)
        counts = [told_counts(part, ()) for part in parts]
        for option in range(4):
            rest = math.prod(sum(each) for place, each in enumerate(counts) if place != option)
            self.assertEqual(count_from(game, (option,)), tuple(many * rest for many in counts[option]))


class TestIndexes(Case):
    def test_drawn_games(self):
        for game in drawn_games(43, 60):
            plans = told_optimal(game.tree, game.outcomes)
            for index, plan in enumerate(plans):
                self.assertEqual(plan_at(game, index), plan)
                self.assertEqual(plan_index(game, plan), index)
            for index in (-1, -len(plans) - 1, len(plans), len(plans) + 1, 10 ** 20):
                self.refused(OutOfRange, plan_at, game, index)
            for plan in all_plans(game.tree):
                faulty = told_faulty(game.tree, plan, game.outcomes)
                if faulty:
                    self.assertEqual(self.refused(NotOptimal, plan_index, game, plan).index, faulty[0])

    def test_no_nodes_and_no_optimal_plan(self):
        self.assertEqual((plan_at(LEAF, 0), plan_index(LEAF, ())), ((), 0))
        self.refused(OutOfRange, plan_at, LEAF, 1)
        self.refused(OutOfRange, plan_at, NONE, 0)
        self.assertEqual(self.refused(NotOptimal, plan_index, NONE, (0, 1)).index, 1)

    def test_wrong_plans(self):
        for game in (LEAF, ONE, MANY, NONE):
            for plan, index in wrong_plans(game):
                self.assertEqual(self.refused(InvalidPlan, plan_index, game, plan).index, index)

    def test_large_games(self):
        for word, aims in [("any", 2), ("any", 4), ("most", 3), ("fewest", 3)]:
            game = large_game(word, aims)
            many = sum(count_plans(game))
            self.assertGreater(many, 0)
            last = ()
            for index in sorted({0, 1, many // 7, many // 3, many // 2, many - 2, many - 1} - {-1}):
                plan = self.asked(plan_at, game, index)
                self.assertEqual(faulty_nodes(game, plan), ())
                self.assertEqual(self.asked(plan_index, game, plan), index)
                self.assertGreater(plan, last)
                last = plan
            for index in (-1, many, many + 1):
                self.refused(OutOfRange, plan_at, game, index)

    def test_index_of_any_plan(self):
        game = large_game("any")
        widths = [node.aim.options for node in game]
        self.assertEqual(plan_at(game, 0), (0,) * 30)
        self.assertEqual(plan_at(game, 2 * 3 ** 29 - 1), tuple(width - 1 for width in widths))
        # All plans are optimal, so they are numbered like choices.
        index = 0
        plan = tuple(number * 7 % width for number, width in enumerate(widths))
        for width, option in zip(widths, plan):
            index = index * width + option
        self.assertEqual(plan_index(game, plan), index)
        self.assertEqual(plan_at(game, index), plan)


class TestPages(Case):
    def test_pages_of_drawn_games(self):
        for game in drawn_games(44, 40):
            plans = list(told_optimal(game.tree, game.outcomes))
            self.assertEqual(self.listed(plans_from, game), plans[:64])
            for start in {0, 1, len(plans) // 2, max(0, len(plans) - 1), len(plans), len(plans) + 5, 10 ** 20}:
                self.assertEqual(self.listed(plans_from, game, start=start), plans[start:start + 64])
                for most in (0, 1, 3, 1024):
                    self.assertEqual(self.listed(plans_from, game, start=start, most=most), plans[start:start + most])
            self.assertEqual(self.listed(plans_from, game, most=2), plans[:2])

    def test_no_nodes_and_no_optimal_plan(self):
        self.assertEqual(self.listed(plans_from, LEAF), [()])
        self.assertEqual(self.listed(plans_from, LEAF, start=1), [])
        self.assertEqual(self.listed(plans_from, LEAF, most=0), [])
        self.assertEqual(self.listed(plans_from, NONE), [])

    def test_large_game(self):
        game = large_game("any")
        widths = [node.aim.options for node in game]
        plans = list(plans_from(game, most=1024))
        told = itertools.islice(itertools.product(*[range(width) for width in widths]), 1024)
        self.assertEqual(plans, list(told))
        self.assertEqual(self.listed(plans_from, game), plans[:64])
        self.assertEqual(self.listed(plans_from, game, start=7), plans[7:71])
        many = 2 * 3 ** 29
        self.assertEqual(self.listed(plans_from, game, start=many - 2, most=5),
                         [plan_at(game, many - 2), plan_at(game, many - 1)])
        self.assertEqual(self.listed(plans_from, game, start=many), [])
        game = large_game("most")
        third = sum(count_plans(game)) // 3
        page = self.listed(plans_from, game, start=third, most=20)
        self.assertEqual([plan_index(game, plan) for plan in page], list(range(third, third + 20)))

    def test_wrong_pages(self):
        for game in (LEAF, NONE, MANY, large_game("any")):
            for more in [{"start": -1}, {"most": -1}, {"most": 1025}, {"start": -1, "most": 0}, {"start": 10 ** 20,
                         "most": 1025}, {"start": 5, "most": -1}, {"start": -10 ** 20}]:
                self.refused(OutOfRange, lambda: list(plans_from(game, **more)))

    def test_error_comes_when_it_is_iterated_over(self):
        self.assertTrue(inspect.isgeneratorfunction(plans_from))
        plans = plans_from(MANY, start=-1)
        with self.assertRaises(OutOfRange):
            next(plans)


class TestPlanTo(Case):
    def test_drawn_games(self):
        for game in drawn_games(45, 80):
            for outcome in range(game.outcomes):
                told = [plan for plan in told_optimal(game.tree, game.outcomes)
                        if ends_of(game.tree)[told_leaf(game.tree, plan)] == outcome]
                self.assertEqual(self.asked(plan_to, game, outcome=outcome), told[0] if told else None)

    def test_wrong_outcomes(self):
        for game in (LEAF, NONE, ONE):
            for outcome in (-1, 2, 3, 10 ** 20):
                self.refused(OutOfRange, plan_to, game, outcome=outcome)
        self.refused(OutOfRange, plan_to, MANY, outcome=3)

    def test_no_nodes_and_no_optimal_plan(self):
        self.assertEqual(plan_to(LEAF, outcome=1), ())
        self.assertIsNone(plan_to(LEAF, outcome=0))
        self.assertIsNone(plan_to(NONE, outcome=0))

    def test_large_games(self):
        for word in ("any", "most", "fewest"):
            game = large_game(word)
            for outcome, many in enumerate(count_plans(game)):
                plan = self.asked(plan_to, game, outcome=outcome)
                if many == 0:
                    self.assertIsNone(plan)
                    continue
                self.assertEqual((is_optimal(game, plan), play_out(game, plan)[1]), (True, outcome))
                # No optimal plan with a lesser option at a node, and the same ones before it, comes there.
                for number, option in enumerate(plan):
                    for lesser in range(option):
                        self.assertEqual(count_from(game, plan[:number] + (lesser,))[outcome], 0)


class TestMended(Case):
    def test_drawn_games(self):
        several = 0
        for game in drawn_games(46, 80, 60):
            plans = told_optimal(game.tree, game.outcomes)
            for plan in all_plans(game.tree):
                mended = mended_plan(game, plan)
                self.assertEqual(mended, told_mended(game, plan))
                if plan in plans:
                    self.assertEqual(mended, plan)
                elif mended is not None:
                    near = differing(mended, plan)
                    several += [differing(other, plan) for other in plans].count(near) > 1
        self.assertGreater(several, 50)

    def test_first_of_several(self):
        game = Game(2, ("node", 0, ("only", (1, 2)), ("end", 0), ("end", 0), ("end", 0)))
        self.assertEqual(mended_plan(game, (0,)), (1,))
        self.assertEqual(mended_plan(game, (2,)), (2,))

    def test_no_optimal_plan(self):
        for plan in all_plans(NONE.tree):
            self.assertIsNone(self.asked(mended_plan, NONE, plan))
        self.assertEqual(self.asked(mended_plan, LEAF, ()), ())

    def test_wrong_plans(self):
        for game in (LEAF, NONE, MANY):
            for plan, index in wrong_plans(game):
                self.assertEqual(self.refused(InvalidPlan, mended_plan, game, plan).index, index)

    def test_large_games(self):
        source = random.Random(47)
        game, parts = joined_game()
        for _ in range(5):
            plans = [source.choice(all_plans(part.tree)) for part in parts]
            option = source.randrange(4)
            told = [told_mended(part, plan) for part, plan in zip(parts, plans)]
            self.assertEqual(mended_plan(game, (option,) + sum(plans, ())), (option,) + sum(told, ()))
        game = large_game("any")
        plan = tuple(source.randrange(node.aim.options) for node in game)
        self.assertEqual(mended_plan(game, plan), plan)

    def test_chain(self):
        game = Game(2, chain(("best", (0, 1))))
        self.assertEqual(len(nodes_of(game.tree)), 12)
        # One changed option at the last node is enough.
        self.assertEqual(mended_plan(game, (0,) * 12), (0,) * 11 + (1,))
        for plan in [(1,) * 12, (0,) * 11 + (1,), (1, 0) * 5 + (0, 1)]:
            self.assertEqual(mended_plan(game, plan), plan)
