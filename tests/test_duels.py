"""Points 71 to 74 and 78: duels."""

import itertools
import random

from choosersrow.certificates import certified_outcome, least_certificate, pivot_leaves
from choosersrow.counting import plan_at
from choosersrow.duels import duel_winner, is_winning, node_sides, threshold_duel, winning_plan
from choosersrow.errors import InvalidPlan, NotDuel, OutOfRange, SizeMismatch
from choosersrow.games import Game
from choosersrow.gamevalues import game_value
from choosersrow.optimal import choosers_for
from tests.gameoracles import chain, ends_of, large_game, large_tree, leaves_of, nodes_of, parts_of, with_ends
from tests.helpers import Case

HIGH, LOW = ("best", (0, 1)), ("best", (1, 0))
DUEL = Game(2, ("node", 0, HIGH, ("end", 0), ("node", 1, LOW, ("end", 1), ("end", 1))))
# Calls about a duel alone, with what else they are passed.
CALLS = [(node_sides, (), {}), (duel_winner, (), {}), (winning_plan, (), {}),
         (is_winning, ((9, 9, 9),), {"outcome": 7}), (certified_outcome, ((-1,),), {}), (least_certificate, (), {}),
         (pivot_leaves, (), {})]


def drawn_duel(source, depth, leaf=0.2):
    """Return the tree of a duel drawn from the random source."""
    if depth == 0 or source.random() < leaf:
        return ("end", source.randrange(2))
    ranks = source.choice([(0, 1), (1, 0), (2, 9), (7, 3), (0, 9)])
    behind = tuple(drawn_duel(source, depth - 1, leaf) for _ in range(source.choice([1, 2, 2, 3])))
    return ("node", source.randrange(8), ("best", ranks)) + behind


def drawn_duels(seed, many, leaves=12):
    """Return duels with at most so many leaves, among them some without nodes."""
    source = random.Random(seed)
    found = [Game(2, ("end", 0)), Game(2, ("end", 1))]
    while len(found) < many:
        tree = drawn_duel(source, source.randrange(1, 5))
        if len(ends_of(tree)) <= leaves and len(nodes_of(tree)) <= 30:
            found.append(Game(2, tree))
    return found


def large_duel(outcomes=(0, 1, 1)):
    """Return a duel with 30 nodes and 60 leaves."""
    sides = itertools.cycle([HIGH, LOW, LOW, HIGH, LOW])
    return Game(2, large_tree(lambda options: next(sides), lambda number: outcomes[number % len(outcomes)]))


def told_side(part):
    """Return the outcome that a node seeks."""
    ranks = part[2][1]
    return max((0, 1), key=lambda outcome: ranks[outcome])


def told_winner(tree):
    if tree[0] == "end":
        return tree[1]
    side = told_side(tree)
    return side if side in [told_winner(below) for below in tree[3:]] else 1 - side


def told_plays(tree, plan):
    """Yield the outcomes of all plays that keep the side plan."""
    entries = {way: entry for (way, _), entry in zip(nodes_of(tree), plan, strict=True)}
    parts = dict(parts_of(tree))
    for way, part in leaves_of(tree):
        if all(entries[way[:length]] in (None, way[length]) for length in range(len(way))):
            yield parts[way][1]


class TestSides(Case):
    def test_drawn_duels(self):
        for game in drawn_duels(80, 60):
            told = tuple(told_side(part) for _, part in nodes_of(game.tree))
            self.assertEqual(self.asked(node_sides, game), told)

    def test_other_numbers_of_outcomes(self):
        wide = [large_game("any", outcomes) for outcomes in (1, 3, 4)]
        for game in [Game(outcomes, ("end", 0)) for outcomes in (1, 3, 4)] + wide:
            for call, args, more in CALLS:
                self.refused(SizeMismatch, call, game, *args, **more)

    def test_no_duels(self):
        for term in [("any",), ("best", (0, 0)), ("best", (7, 7)), ("second", (0, 1)), ("most",), ("not", HIGH),
                     ("either", HIGH, HIGH), ("table", ((0,), (0,)))]:
            wrong = ("node", 0, term, ("end", 1))
            for tree, index in [(wrong, 0), (("node", 0, HIGH, wrong, wrong), 1), (("node", 0, LOW, ("end", 0), wrong), 1),
                                (("node", 0, HIGH, ("node", 1, LOW, ("end", 0)), wrong, wrong), 2)]:
                for call, args, more in CALLS:
                    self.assertEqual(self.refused(NotDuel, call, Game(2, tree), *args, **more).index, index)
        self.assertEqual(self.refused(NotDuel, node_sides, large_game("any", 2)).index, 0)

    def test_no_nodes(self):
        for outcome in (0, 1):
            game = Game(2, ("end", outcome))
            self.assertEqual((node_sides(game), duel_winner(game), winning_plan(game)), ((), outcome, ()))
            for other in (0, 1):
                self.assertIs(self.asked(is_winning, game, (), outcome=other), outcome == other)


class TestWinners(Case):
    def test_drawn_duels(self):
        for game in drawn_duels(81, 150):
            winner = self.asked(duel_winner, game)
            self.assertEqual(winner, told_winner(game.tree))
            self.assertEqual(game_value(game), (winner,))

    def test_winner_at_each_node(self):
        for game in drawn_duels(86, 60) + [large_duel()]:
            for node, (way, part) in zip(game, nodes_of(game.tree), strict=True):
                self.assertEqual(node.way, way)
                self.assertEqual(duel_winner(game.part(way)), told_winner(part))

    def test_large_duels(self):
        for outcomes in [(0,), (1,), (0, 1, 1), (1, 0), (0, 0, 0, 1)]:
            game = large_duel(outcomes)
            self.assertEqual((len(game.nodes), len(game.ends)), (30, 60))
            self.assertEqual(duel_winner(game), told_winner(game.tree))
            self.assertEqual(game_value(game), (duel_winner(game),))
        self.assertEqual(duel_winner(Game(2, chain(HIGH))), 1)
        self.assertEqual(duel_winner(Game(2, chain(LOW))), 0)

    def test_winning_plans(self):
        for game in drawn_duels(82, 150) + [large_duel(), large_duel((1, 0))]:
            plan = self.asked(winning_plan, game)
            winner = told_winner(game.tree)
            for (_, part), entry in zip(nodes_of(game.tree), plan, strict=True):
                behind = [told_winner(below) for below in part[3:]]
                told = behind.index(winner) if winner in behind else 0
                self.assertEqual(entry, told if told_side(part) == winner else None)
            self.assertEqual(set(told_plays(game.tree, plan)), {winner})
            self.assertIs(is_winning(game, plan, outcome=winner), True)
            self.assertIs(is_winning(game, plan, outcome=1 - winner), False)

    def test_node_that_seeks_the_winner_in_vain(self):
        lost = ("node", 0, HIGH, ("end", 0), ("end", 0))
        game = Game(2, ("node", 0, HIGH, lost, ("node", 1, LOW, ("end", 1), ("end", 1)), ("end", 1)))
        self.assertEqual(winning_plan(game), (1, 0, None))


class TestIsWinning(Case):
    def test_side_plans_of_drawn_duels(self):
        yes = 0
        for game in drawn_duels(83, 60, 8):
            entries = [[None, *range(node.aim.options)] for node in game]
            for plan in itertools.islice(itertools.product(*entries), 200):
                for outcome in (0, 1):
                    told = set(told_plays(game.tree, plan)) == {outcome}
                    self.assertIs(is_winning(game, plan, outcome=outcome), told)
                    yes += told
        self.assertGreater(yes, 100)

    def test_wrong_side_plans(self):
        for plan, index in [((), 0), ((None,), 1), ((0,), 1), ((None, None, None), 2), ((0, 0, 0), 2), ((2, 0), 0),
                            ((-1, None), 0), ((None, 2), 1), ((1, -1), 1), ((9, 9), 0), ((2,), 0), ((None, 0, 9), 2),
                            ((None, 5, None), 1), ((10 ** 20, None), 0)]:
            for outcome in (0, 1, 2, -1):
                # The outcome is looked at last.
                error = self.refused(InvalidPlan, is_winning, DUEL, plan, outcome=outcome)
                self.assertEqual(error.index, index, plan)
        self.assertEqual(self.refused(InvalidPlan, is_winning, Game(2, ("end", 0)), (None,), outcome=0).index, 0)

    def test_wrong_outcomes(self):
        for plan in [(None, None), (0, 0), (1, None)]:
            for outcome in (-1, 2, 3, 10 ** 20):
                self.refused(OutOfRange, is_winning, DUEL, plan, outcome=outcome)
        self.refused(OutOfRange, is_winning, Game(2, ("end", 0)), (), outcome=2)

    def test_large_duel(self):
        game = large_duel()
        self.assertIs(is_winning(game, (None,) * 30, outcome=1), False)
        self.assertIs(is_winning(game, (None,) * 30, outcome=0), False)
        self.assertIs(is_winning(large_duel((1,)), (None,) * 30, outcome=1), True)
        # Whoever plays optimally for the winner wins.
        plan = plan_at(game, 0)
        self.assertEqual(len(choosers_for(game, plan)), 30)
        sided = tuple(option if side == duel_winner(game) else None for option, side in zip(plan, node_sides(game)))
        self.assertIs(is_winning(game, sided, outcome=duel_winner(game)), True)


def dense(ranks):
    return [sorted(set(ranks)).index(rank) for rank in ranks]


def told_threshold(tree, ranks, least):
    """Return the tree of the threshold duel, by the words of point 78."""
    if tree[0] == "end":
        return ("end", int(ranks[tree[1]] >= least))
    same = dense(tree[2][1]) == dense(ranks)
    return tree[:2] + (HIGH if same else LOW,) + tuple(told_threshold(below, ranks, least) for below in tree[3:])


def drawn_fight(source, ranks, depth):
    """Return a tree in which each node has the order of the ranks or the opposite one."""
    if depth == 0 or source.random() < 0.2:
        return ("end", source.randrange(len(ranks)))
    order = dense(ranks)
    if source.randrange(2):
        order = [max(order) - rank for rank in order]
    # The same order in other ranks.
    levels = sorted(source.sample(range(10), max(order) + 1))
    behind = tuple(drawn_fight(source, ranks, depth - 1) for _ in range(source.choice([1, 2, 3])))
    return ("node", source.randrange(8), ("best", tuple(levels[rank] for rank in order))) + behind


class TestThresholdDuel(Case):
    def test_drawn_games(self):
        source = random.Random(84)
        many = 0
        while many < 80:
            outcomes = source.randrange(1, 5)
            ranks = tuple(source.randrange(10) for _ in range(outcomes))
            tree = drawn_fight(source, ranks, source.randrange(4))
            if len(nodes_of(tree)) > 30 or len(ends_of(tree)) > 60:
                continue
            many += 1
            game = Game(outcomes, tree)
            for least in [-10 ** 20, -1, 10, 10 ** 20, *ranks, *[rank + 1 for rank in ranks]]:
                duel = threshold_duel(game, ranks, least=least)
                self.assertIs(type(duel), Game)
                self.assertEqual((duel.outcomes, duel.tree), (2, told_threshold(tree, ranks, least)))
                self.assertEqual({ranks[outcome] >= least for outcome in game_value(game)}, {duel_winner(duel) == 1})

    def test_equal_ranks(self):
        # The ranks are their own opposite ranks, and HIGH comes first.
        game = Game(3, ("node", 2, ("best", (4, 4, 4)), ("end", 0), ("end", 2)))
        self.assertEqual(threshold_duel(game, (0, 0, 0), least=0).tree, ("node", 2, HIGH, ("end", 1), ("end", 1)))
        self.assertEqual(threshold_duel(game, (9, 9, 9), least=10).tree, ("node", 2, HIGH, ("end", 0), ("end", 0)))
        self.assertEqual(threshold_duel(Game(1, ("end", 0)), (3,), least=3).tree, ("end", 1))

    def test_wrong_ranks(self):
        wrong = Game(3, ("node", 0, ("any",), ("end", 0)))
        for game in (Game(3, ("end", 0)), wrong):
            for ranks in [(), (0,), (0, 1), (0, 1, 2, 3), (0, 1, -1), (-1, 1, 2), (0, 10, 1), (10, 0, 0), (0, 0, 10 ** 20),
                          (0, 1, 2, 3, 4)]:
                for least in (-1, 0, 5, 11):
                    self.refused(OutOfRange, threshold_duel, game, ranks, least=least)

    def test_nodes_that_fit_neither_order(self):
        order = ("best", (0, 1, 2))
        for term in [("best", (0, 2, 1)), ("best", (1, 0, 2)), ("best", (0, 1, 1)), ("best", (0, 0, 0)), ("any",),
                     ("second", (2, 1, 0)), ("not", order), ("either", order, order)]:
            wrong = ("node", 0, term, ("end", 1), ("end", 2))
            for tree, index in [(wrong, 0), (("node", 0, order, wrong, wrong), 1),
                                (("node", 0, ("best", (9, 5, 1)), ("node", 0, order, ("end", 2)), wrong), 2)]:
                for ranks in [(0, 1, 2), (3, 6, 9)]:
                    error = self.refused(NotDuel, threshold_duel, Game(3, tree), ranks, least=1)
                    self.assertEqual(error.index, index)

    def test_large_game(self):
        orders = itertools.cycle([("best", (0, 1, 2)), ("best", (9, 5, 3)), ("best", (2, 3, 4))])
        game = Game(3, large_tree(lambda options: next(orders), lambda number: number % 3))
        (outcome,) = game_value(game)
        for least in range(-1, 5):
            self.assertEqual(duel_winner(threshold_duel(game, (0, 1, 2), least=least)), int(outcome >= least))

    def test_ends_of_one_duel(self):
        for game in drawn_duels(85, 20, 6):
            for ends in itertools.product((0, 1), repeat=len(game.ends)):
                other = game.with_ends(ends)
                told = threshold_duel(other, (0, 1), least=1)
                self.assertEqual((told.ends, node_sides(told)), (ends, node_sides(game)))
                self.assertEqual(duel_winner(told), told_winner(with_ends(game.tree, ends)))
