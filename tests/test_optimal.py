"""Points 45 to 47: plans that callables make, and optimal plans."""

import inspect
import random

from choosersrow.choosers import Chooser
from choosersrow.errors import InvalidPlan, NotOptimal, OutOfRange, SizeMismatch, TooLarge
from choosersrow.games import Game
from choosersrow.optimal import choosers_for, optimal_plans, plan_by
from choosersrow.plays import is_optimal
from tests.gameoracles import (all_plans, chain, drawn_games, large_game, told_contexts, told_faulty, told_good,
                               told_optimal)
from tests.helpers import Case, contexts
from tests.test_choosers import drawn_chooser
from tests.test_plays import LEAF, MANY, ONE, wrong_plans


class Asked:
    """A callable that notes what it is asked in a list, and answers with the option."""

    def __init__(self, number, notes, option):
        self.number = number
        self.notes = notes
        self.option = option

    def __call__(self, context):
        self.notes.append((self.number, context))
        return self.option


class Upset(Exception):
    """An error of a callable."""


def binary_game(many):
    """Return a game with 2 ** many plans."""
    return Game(2, chain(("any",), many))


class TestPlanBy(Case):
    def test_order_of_asking(self):
        for plan in all_plans(MANY.tree):
            notes = []
            choosers = tuple(Asked(number, notes, option) for number, option in enumerate(plan))
            self.assertEqual(plan_by(MANY, choosers), plan)
            faced = told_contexts(MANY.tree, plan)
            self.assertEqual(notes, [(number, faced[number]) for number in (3, 2, 1, 0)])

    def test_no_nodes(self):
        self.assertEqual(self.asked(plan_by, LEAF, ()), ())

    def test_drawn_choosers(self):
        source = random.Random(10)
        for game in drawn_games(11, 60, 10 ** 9):
            choosers = tuple(drawn_chooser(source, node.aim.options, game.outcomes) for node in game)
            plan = self.asked(plan_by, game, choosers)
            faced = told_contexts(game.tree, plan)
            self.assertEqual(plan, tuple(chooser.row[contexts(chooser.options, game.outcomes).index(context)]
                                         for chooser, context in zip(choosers, faced, strict=True)))

    def test_choosers_and_functions_mixed(self):
        choosers = (Chooser.constant(3, 3, 2), lambda context: context.index(max(context)), Asked(2, [], 1), min)
        self.assertEqual(plan_by(MANY, choosers), (2, 0, 1, 0))

    def test_number_of_callables(self):
        for game in (LEAF, ONE, MANY):
            for many in range(len(game.nodes) + 3):
                if many != len(game.nodes):
                    notes = []
                    # Answers that are no options as well: none of them is asked for.
                    choosers = tuple(Asked(number, notes, 9) for number in range(many))
                    self.refused(SizeMismatch, plan_by, game, choosers)
                    self.assertEqual(notes, [])

    def test_wrong_answers(self):
        for number, node in enumerate(MANY):
            for option in (-1, node.aim.options, 10 ** 20):
                notes = []
                answers = [0, 0, 0, 0]
                answers[number] = option
                choosers = tuple(Asked(each, notes, answer) for each, answer in enumerate(answers))
                self.assertEqual(self.refused(InvalidPlan, plan_by, MANY, choosers).index, number)
                self.assertEqual([each for each, _ in notes], list(range(3, number - 1, -1)) * 2)

    def test_wrong_answers_at_two_nodes(self):
        for first, second in [(0, 1), (0, 3), (1, 2), (2, 3)]:
            notes = []
            answers = [7 if number in (first, second) else 1 for number in range(4)]
            choosers = tuple(Asked(each, notes, answer) for each, answer in enumerate(answers))
            self.assertEqual(self.refused(InvalidPlan, plan_by, MANY, choosers).index, second)
            self.assertEqual([each for each, _ in notes], list(range(3, second - 1, -1)) * 2)

    def test_errors_of_callables(self):
        def upset(context):
            raise Upset(str(context))

        def strict(context):
            raise OutOfRange("told by the callable")

        for call, kind in [(upset, Upset), (strict, OutOfRange)]:
            notes = []
            choosers = (Asked(0, notes, 9), call, Asked(2, notes, 0), Asked(3, notes, 1))
            self.refused(kind, plan_by, MANY, choosers)
            self.assertEqual([each for each, _ in notes], [3, 2] * 2)
        with self.assertRaises(Upset) as caught:
            plan_by(ONE, (upset,))
        self.assertEqual(str(caught.exception), "(0, 1, 1)")

    def test_large_game(self):
        game = large_game("any")
        notes = []
        plan = tuple(number % node.aim.options for number, node in enumerate(game))
        self.assertEqual(plan_by(game, tuple(Asked(at, notes, option) for at, option in enumerate(plan))), plan)
        self.assertEqual([number for number, _ in notes], list(range(29, -1, -1)))


class TestChoosersFor(Case):
    def told_row(self, aim, faced, picked):
        row = []
        for context in contexts(aim.options, aim.outcomes):
            good = told_good(aim.term, context, aim.outcomes)
            row.append(picked if context == faced else good[0] if good else 0)
        return tuple(row)

    def test_drawn_games(self):
        for game in drawn_games(12, 50, 40):
            for plan in all_plans(game.tree):
                faulty = told_faulty(game.tree, plan, game.outcomes)
                if faulty:
                    self.assertEqual(self.refused(NotOptimal, choosers_for, game, plan).index, faulty[0])
                    continue
                choosers = choosers_for(game, plan)
                self.assertIs(type(choosers), tuple)
                faced = told_contexts(game.tree, plan)
                for node, chooser, context, option in zip(game, choosers, faced, plan, strict=True):
                    self.assertIs(type(chooser), Chooser)
                    self.assertEqual((chooser.options, chooser.outcomes), (node.aim.options, node.aim.outcomes))
                    self.assertEqual(chooser.row, self.told_row(node.aim, context, option))
                self.assertEqual(plan_by(game, choosers), plan)

    def test_aim_that_is_not_met(self):
        game = Game(2, ("node", 0, ("fixed",), ("end", 0), ("end", 1)))
        self.assertEqual([chooser.row for chooser in choosers_for(game, (1,))], [(0, 1, 0, 1)])
        self.assertEqual([chooser.row for chooser in choosers_for(game, (0,))], [(0, 0, 0, 1)])
        game = Game(2, ("node", 0, ("fixed",), ("end", 1), ("end", 0)))
        for option in (0, 1):
            self.assertEqual(self.refused(NotOptimal, choosers_for, game, (option,)).index, 0)

    def test_first_faulty_node(self):
        for plan, index in [((2, 0, 1, 1), 0), ((1, 1, 1, 1), 3), ((0, 0, 1, 1), 1)]:
            self.assertEqual(self.refused(NotOptimal, choosers_for, MANY, plan).index, index)

    def test_wrong_plans(self):
        for game in (LEAF, ONE, MANY):
            for plan, index in wrong_plans(game):
                self.assertEqual(self.refused(InvalidPlan, choosers_for, game, plan).index, index)

    def test_no_nodes(self):
        self.assertEqual(self.asked(choosers_for, LEAF, ()), ())


class TestOptimalPlans(Case):
    def test_drawn_games(self):
        found = 0
        for game in drawn_games(13, 80):
            plans = self.listed(optimal_plans, game)
            self.assertEqual(plans, list(told_optimal(game.tree, game.outcomes)))
            found += len(plans)
        self.assertGreater(found, 200)

    def test_no_nodes_and_no_optimal_plans(self):
        self.assertEqual(self.listed(optimal_plans, LEAF), [()])
        self.assertEqual(self.listed(optimal_plans, Game(2, ("node", 0, ("only", ()), ("end", 1)))), [])
        # The root's aim is met, but the play never comes to the node whose aim is not.
        tree = ("node", 0, ("only", (0,)), ("end", 0), ("node", 0, ("among", ()), ("end", 0)))
        self.assertEqual(self.listed(optimal_plans, Game(2, tree)), [])

    def test_1024_plans(self):
        game = binary_game(10)
        self.assertEqual(game.plans, 1024)
        self.assertEqual(self.listed(optimal_plans, game), all_plans(game.tree))
        game = Game(2, chain(("best", (0, 1)), 10))
        self.assertEqual(self.listed(optimal_plans, game), [plan for plan in all_plans(game.tree)
                                                            if not told_faulty(game.tree, plan, 2)])

    def test_too_large(self):
        seven = ("node", 0, ("only", ())) + (("end", 0),) * 7
        # A node has at most 8 options, so no game has from 1025 to 1028 plans.
        near = Game(2, ("node", 0, ("any",), seven, seven, seven))
        self.assertEqual(near.plans, 1029)
        for game in [near, binary_game(11), large_game("any"), large_game("fixed")]:
            self.refused(TooLarge, lambda: list(optimal_plans(game)))
            self.refused(TooLarge, lambda: next(optimal_plans(game)))

    def test_error_comes_when_it_is_iterated_over(self):
        self.assertTrue(inspect.isgeneratorfunction(optimal_plans))
        plans = optimal_plans(large_game("any"))
        with self.assertRaises(TooLarge):
            next(plans)

    def test_they_are_optimal(self):
        for game in drawn_games(14, 30):
            for plan in optimal_plans(game):
                self.assertIs(is_optimal(game, plan), True)
