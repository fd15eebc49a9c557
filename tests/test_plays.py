"""Points 41 to 44: plans, plays, and what nodes face under a plan."""

import random

from choosersrow.errors import InvalidPlan
from choosersrow.games import Game
from choosersrow.plays import contexts_under, faulty_nodes, is_optimal, outcomes_under, play_out, require_plan
from tests.gameoracles import (all_plans, chain, drawn_games, ends_of, large_game, led_to, nodes_of, told_contexts,
                               told_faulty, told_leaf, told_outcomes)
from tests.helpers import Case

LEAF = Game(2, ("end", 1))
ONE = Game(2, ("node", 0, ("best", (0, 1)), ("end", 0), ("end", 1), ("end", 1)))
# Node 1 is behind option 0 of the root, node 2 behind option 1 of node 1, node 3 behind option 2 of the root.
MANY = Game(3, ("node", 0, ("best", (0, 1, 2)),
                ("node", 1, ("best", (2, 1, 0)), ("end", 2), ("node", 2, ("any",), ("end", 0), ("end", 1))),
                ("end", 1),
                ("node", 3, ("fixed",), ("end", 0), ("end", 0))))
ALL = [require_plan, play_out, outcomes_under, contexts_under, faulty_nodes, is_optimal]


def wrong_plans(game):
    """Yield tuples that are no plans of the game, each with the first wrong index."""
    widths = [node.aim.options for node in game.nodes]
    zeros = (0,) * len(widths)
    yield zeros + (0,), len(widths)
    yield zeros + (-1, 5), len(widths)
    for index, width in enumerate(widths):
        yield zeros[:index], index
        for option in (-1, width, width + 1, 10 ** 20):
            yield zeros[:index] + (option,) + zeros[index + 1:], index
            yield zeros[:index] + (option,), index
            yield zeros[:index] + (option,) * (len(widths) - index + 3), index


class TestRequirePlan(Case):
    def test_plans(self):
        for game in [LEAF, ONE, MANY] + drawn_games(1, 40, 60):
            for plan in all_plans(game.tree):
                self.assertIsNone(self.asked(require_plan, game, plan))

    def test_wrong_plans(self):
        for game in (LEAF, ONE, MANY):
            for plan, index in wrong_plans(game):
                for call in ALL:
                    self.assertEqual(self.refused(InvalidPlan, call, game, plan).index, index, plan)

    def test_wrong_plans_of_a_large_game(self):
        game = large_game("any")
        for plan, index in wrong_plans(game):
            self.assertEqual(self.refused(InvalidPlan, require_plan, game, plan).index, index)

    def test_first_of_several_faults(self):
        for plan, index in [((0, 2, 5, -1), 1), ((3, 2, 5, -1, 0), 0), ((0, 0, 2), 2), ((0, 0, 0), 3), ((-1,), 0),
                            ((0, 0, 0, 2, 9), 3), ((0, 0, 0, 0, 9, 9), 4)]:
            for call in ALL:
                self.assertEqual(self.refused(InvalidPlan, call, MANY, plan).index, index)


class TestPlays(Case):
    def test_no_nodes(self):
        for outcomes in range(1, 5):
            for outcome in range(outcomes):
                game = Game(outcomes, ("end", outcome))
                self.assertEqual(self.asked(play_out, game, ()), ((), outcome))
                self.assertEqual(self.asked(outcomes_under, game, ()), ())
                self.assertEqual(self.asked(contexts_under, game, ()), ())
                self.assertEqual(self.asked(faulty_nodes, game, ()), ())
                self.assertIs(self.asked(is_optimal, game, ()), True)

    def test_plays_that_end_early(self):
        self.assertEqual(play_out(MANY, (1, 0, 0, 0)), ((1,), 1))
        self.assertEqual(play_out(MANY, (0, 0, 1, 1)), ((0, 0), 2))
        self.assertEqual(play_out(MANY, (0, 1, 1, 0)), ((0, 1, 1), 1))
        self.assertEqual(play_out(MANY, (2, 1, 1, 1)), ((2, 1), 0))
        self.assertEqual(play_out(ONE, (2,)), ((2,), 1))

    def test_nodes_that_the_play_does_not_come_to(self):
        self.assertEqual(outcomes_under(MANY, (1, 1, 1, 0)), (1, 1, 1, 0))
        self.assertEqual(contexts_under(MANY, (1, 1, 1, 0)), ((1, 1, 0), (2, 1), (0, 1), (0, 0)))
        self.assertEqual(contexts_under(MANY, (1, 0, 1, 0)), ((2, 1, 0), (2, 1), (0, 1), (0, 0)))
        # Node 3 is faulty with option 1 although the play ends at the root's own leaf.
        self.assertEqual(faulty_nodes(MANY, (1, 1, 1, 1)), (3,))
        self.assertIs(is_optimal(MANY, (1, 1, 1, 1)), False)
        self.assertIs(is_optimal(MANY, (1, 1, 1, 0)), True)
        self.assertEqual(faulty_nodes(MANY, (2, 0, 1, 1)), (0, 1, 3))

    def test_all_plans_of_drawn_games(self):
        for game in drawn_games(2, 60, 60):
            tree = game.tree
            for plan in all_plans(tree):
                play = led_to(tree, plan, ())
                self.assertEqual(play_out(game, plan), (play, ends_of(tree)[told_leaf(tree, plan)]))
                self.assertEqual(outcomes_under(game, plan), told_outcomes(tree, plan))
                self.assertEqual(contexts_under(game, plan), told_contexts(tree, plan))
                faulty = told_faulty(tree, plan, game.outcomes)
                self.assertEqual(faulty_nodes(game, plan), faulty)
                self.assertIs(is_optimal(game, plan), faulty == ())

    def test_large_games(self):
        source = random.Random(3)
        for word in ("most", "fewest", "any", "fixed"):
            game = large_game(word)
            self.assertEqual((len(game.nodes), len(game.ends), game.plans), (30, 60, 2 * 3 ** 29))
            for _ in range(4):
                plan = tuple(source.randrange(node.aim.options) for node in game.nodes)
                self.assertEqual(self.asked(outcomes_under, game, plan), told_outcomes(game.tree, plan))
                self.assertEqual(self.asked(contexts_under, game, plan), told_contexts(game.tree, plan))
                self.assertEqual(self.asked(faulty_nodes, game, plan), told_faulty(game.tree, plan, 3))
                self.assertEqual(self.asked(play_out, game, plan)[0], led_to(game.tree, plan, ()))

    def test_chain(self):
        game = Game(2, chain(("best", (0, 1))))
        self.assertEqual(len(nodes_of(game.tree)), 12)
        self.assertEqual(play_out(game, (0,) * 12), ((0,) * 12, 0))
        self.assertEqual(play_out(game, (0,) * 11 + (1,)), ((0,) * 11 + (1,), 1))
        self.assertEqual(play_out(game, (0, 0, 1) + (0,) * 9), ((0, 0, 1), 1))
        self.assertEqual(outcomes_under(game, (0, 0, 1) + (0,) * 9), (1,) * 3 + (0,) * 9)
        self.assertEqual(faulty_nodes(game, (0,) * 12), tuple(range(12)))
        self.assertEqual(faulty_nodes(game, (1,) * 12), ())
        self.assertEqual(faulty_nodes(game, (0,) * 11 + (1,)), ())
