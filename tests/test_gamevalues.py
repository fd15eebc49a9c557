"""Points 51, 52 and 59: what optimal plans come to."""

from choosersrow.counting import count_plans, plan_at
from choosersrow.games import Game
from choosersrow.gamevalues import game_value, good_leaves, node_values, optimal_options, optimal_outcomes
from choosersrow.plays import outcomes_under, play_out
from tests.gameoracles import (ascending, chain, drawn_games, ends_of, large_game, large_tree, nodes_of, told_leaf,
                               told_optimal, told_outcomes, with_ends)
from tests.helpers import Case

NEVER = ("only", ())


def told_value(tree, outcomes):
    return ascending(ends_of(tree)[told_leaf(tree, plan)] for plan in told_optimal(tree, outcomes))


class TestValues(Case):
    def test_drawn_games(self):
        empty = 0
        for game in drawn_games(30, 120):
            values = self.asked(node_values, game)
            self.assertEqual(values, tuple(told_value(part, game.outcomes) for _, part in nodes_of(game.tree)))
            self.assertEqual(self.asked(game_value, game), told_value(game.tree, game.outcomes))
            empty += game_value(game) == ()
        self.assertGreater(empty, 10)

    def test_no_nodes(self):
        for outcomes in range(1, 5):
            for outcome in range(outcomes):
                game = Game(outcomes, ("end", outcome))
                self.assertEqual(self.asked(game_value, game), (outcome,))
                self.assertEqual(self.asked(node_values, game), ())

    def test_aims_that_are_not_met(self):
        inside = ("node", 0, ("any",), ("end", 1), ("end", 0))
        game = Game(2, ("node", 0, ("any",), ("node", 1, NEVER, inside), inside))
        # The part at node 2 has optimal plans, the whole game has none.
        self.assertEqual(node_values(game), ((), (), (0, 1), (0, 1)))
        self.assertEqual(game_value(game), ())
        self.assertEqual(good_leaves(game), ())
        # This aim is not met, but an option is good in some of the contexts that can come.
        game = Game(2, ("node", 0, ("fixed",), inside, ("end", 0)))
        self.assertEqual(node_values(game), ((0,), (0, 1)))
        self.assertEqual(good_leaves(game), (1,))

    def test_chain(self):
        for term, value in [(("any",), (0, 1)), (("best", (0, 1)), (1,)), (("best", (1, 0)), (0,)), (NEVER, ())]:
            self.assertEqual(node_values(Game(2, chain(term))), (value,) * 12)


class TestGoodLeaves(Case):
    def test_drawn_games(self):
        for game in drawn_games(31, 120):
            told = ascending(told_leaf(game.tree, plan) for plan in told_optimal(game.tree, game.outcomes))
            self.assertEqual(self.asked(good_leaves, game), told)

    def test_no_nodes(self):
        for outcome in (0, 1):
            self.assertEqual(self.asked(good_leaves, Game(2, ("end", outcome))), (0,))

    def test_leaves_with_the_outcome_of_a_good_leaf(self):
        # Both leaves of the root have outcome 1, but the aim of the node takes the one on the right alone.
        game = Game(2, ("node", 0, ("only", (1,)), ("end", 1), ("end", 1)))
        self.assertEqual(good_leaves(game), (1,))
        # The node behind comes to outcome 0 or 1, but the root takes it only when it comes to 1.
        game = Game(2, ("node", 0, ("best", (0, 1)), ("node", 0, ("any",), ("end", 0), ("end", 1)), ("end", 0)))
        self.assertEqual(good_leaves(game), (0, 1, 2))
        game = Game(2, ("node", 0, ("among", (1,)), ("node", 0, ("any",), ("end", 0), ("end", 1)), ("end", 0)))
        self.assertEqual(good_leaves(game), (1,))


class TestWholeGame(Case):
    def test_drawn_games(self):
        narrower = 0
        for game in drawn_games(32, 120):
            plans = told_optimal(game.tree, game.outcomes)
            outcomes = [told_outcomes(game.tree, plan) for plan in plans]
            numbers = range(len(game.nodes))
            self.assertEqual(self.asked(optimal_options, game),
                             tuple(ascending(plan[number] for plan in plans) for number in numbers))
            told = tuple(ascending(each[number] for each in outcomes) for number in numbers)
            self.assertEqual(self.asked(optimal_outcomes, game), told)
            narrower += told != node_values(game)
        self.assertGreater(narrower, 5)

    def test_no_nodes_and_no_optimal_plan(self):
        for call in (optimal_options, optimal_outcomes):
            self.assertEqual(call(Game(2, ("end", 1))), ())
        inside = ("node", 0, ("any",), ("end", 1), ("end", 0))
        game = Game(2, ("node", 0, ("any",), ("node", 1, NEVER, inside), inside))
        self.assertEqual(optimal_options(game), ((), (), (), ()))
        self.assertEqual(optimal_outcomes(game), ((), (), (), ()))

    def test_whole_game_and_part(self):
        inside = ("node", 0, ("any",), ("end", 1), ("end", 0))
        game = Game(2, ("node", 0, ("fixed",), inside, ("end", 0)))
        self.assertEqual(node_values(game), ((0,), (0, 1)))
        self.assertEqual(optimal_outcomes(game), ((0,), (0,)))
        self.assertEqual(optimal_options(game), ((0,), (1,)))

    def test_same_as_values_if_all_aims_are_met(self):
        for term in [("any",), ("most",), ("fewest",), ("best", (2, 0, 1)), ("second", (0, 1, 1)), ("first", ("any",))]:
            game = Game(3, large_tree(lambda options: term, lambda number: number % 3))
            self.assertEqual(optimal_outcomes(game), node_values(game))


class TestLargeGames(Case):
    def test_any(self):
        for outcomes in range(1, 5):
            game = large_game("any", outcomes)
            reached = tuple(ascending(ends_of(part)) for _, part in nodes_of(game.tree))
            self.assertEqual(self.asked(node_values, game), reached)
            self.assertEqual(self.asked(good_leaves, game), tuple(range(60)))
            self.assertEqual(optimal_options(game), tuple(tuple(range(node.aim.options)) for node in game))

    def test_best(self):
        game = Game(4, large_tree(lambda options: ("best", (3, 1, 4, 1)), lambda number: number * number % 4))
        # Squares are 0 or 1 modulo 4.
        self.assertEqual(game_value(game), (0,))
        tree = with_ends(game.tree, (1,) * 30 + (3,) * 30)
        self.assertEqual(game_value(Game(4, tree)), (1, 3))
        tree = with_ends(game.tree, (1,) * 17 + (2,) + (3,) * 42)
        self.assertEqual(game_value(Game(4, tree)), (2,))
        self.assertEqual(good_leaves(Game(4, tree)), (17,))

    def test_plans_that_come_to_the_values(self):
        for word in ("most", "fewest", "fixed"):
            game = large_game(word)
            many = sum(count_plans(game))
            self.assertEqual(many > 0, game_value(game) != ())
            for index in {0, many // 3, many // 2, many - 1} if many else ():
                plan = plan_at(game, index)
                play, outcome = play_out(game, plan)
                self.assertIn(outcome, game_value(game))
                for told, whole, value in zip(outcomes_under(game, plan), optimal_outcomes(game), node_values(game)):
                    self.assertIn(told, whole)
                    self.assertIn(told, value)
                for option, options in zip(plan, optimal_options(game)):
                    self.assertIn(option, options)
                self.assertIn(told_leaf(game.tree, plan), good_leaves(game))
