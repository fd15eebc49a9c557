"""Points 116 to 118: plan tables, plays and plans, and table games in turn."""

import itertools
import random

from choosersrow.aims import Aim
from choosersrow.errors import InvalidPlan, NotOrders, OutOfRange, TooLarge
from choosersrow.games import Game
from choosersrow.plantables import in_turn_game, plan_of, plan_table, play_of
from choosersrow.tablegames import TableGame, outcome_of
from tests.gameoracles import all_plans, leaves_of, nodes_of, told_leaf
from tests.helpers import SMALL_SIZES, Case
from tests.test_tablegames import all_plays, drawn_tablegames, entry, game_form, made_table

ANY, BEST, OTHER = ("any",), ("best", (0, 1)), ("best", (1, 0))
ZERO, ONE = ("end", 0), ("end", 1)
# Players 6, 2 and 6 again.
TREE = ("node", 6, BEST, ("node", 2, OTHER, ZERO, ONE, ZERO), ("node", 6, ("best", (3, 9)), ONE, ZERO))


def told_players(tree):
    return sorted({part[1] for _, part in nodes_of(tree)})


def told_choices(tree, player):
    """Return the choices of the player in ascending order, each as a dict of the options at the nodes."""
    nodes = [(number, len(part) - 3) for number, (_, part) in enumerate(nodes_of(tree)) if part[1] == player]
    return [dict(zip([number for number, _ in nodes], choice))
            for choice in itertools.product(*[range(options) for _, options in nodes])]


def told_plan(tree, play):
    """Return the plan for which a play stands, by the words of point 116."""
    options = {}
    for player, index in zip(told_players(tree), play, strict=True):
        options.update(told_choices(tree, player)[index])
    return tuple(options[number] for number in sorted(options))


def told_dense(ranks):
    return tuple(sum(other < rank for other in set(ranks)) for rank in ranks)


def drawn_order_trees(seed, many):
    """Return pairs of a number of outcomes and a tree whose players have one order each, for small plan tables."""
    source = random.Random(seed)
    found = []
    while len(found) < many:
        outcomes = source.randrange(1, 5)
        orders = {player: tuple(source.randrange(4) for _ in range(outcomes)) for player in range(8)}

        def drawn(depth):
            if depth == 0 or source.random() < 0.3:
                return ("end", source.randrange(outcomes))
            player = source.choice([1, 3, 7])
            # The ranks of the order may be written with other numbers.
            ranks = tuple(2 * rank + 1 for rank in orders[player])
            ranks = source.choice([ranks, orders[player], told_dense(ranks)])
            return ("node", player, ("best", ranks)) + tuple(drawn(depth - 1) for _ in range(source.choice([1, 2, 2, 3])))

        tree = drawn(3)
        if tree[0] == "node" and len(all_plans(tree)) <= 200:
            if max(len(told_choices(tree, player)) for player in told_players(tree)) <= 64:
                found.append((outcomes, tree))
    return found


class TestPlanTables(Case):
    def test_drawn_games(self):
        for outcomes, tree in drawn_order_trees(100, 120):
            game = Game(outcomes, tree)
            table = plan_table(game)
            players = told_players(tree)
            self.assertIs(type(table), TableGame)
            self.assertEqual(table.outcomes, outcomes)
            self.assertEqual(table.sizes, tuple(len(told_choices(tree, player)) for player in players))
            for player, aim in zip(players, table.aims, strict=True):
                first = [part[2] for _, part in nodes_of(tree) if part[1] == player][0]
                self.assertEqual(aim.term, ("best", told_dense(first[1])))
            for play in all_plays(table.sizes):
                plan = told_plan(tree, play)
                self.assertEqual(outcome_of(table, play), game.ends[told_leaf(tree, plan)])
                self.assertEqual(plan_of(game, play), plan)
                self.assertEqual(play_of(game, plan), play)

    def test_by_hand(self):
        game = Game(2, TREE)
        table = plan_table(game)
        # Player 2 stands before player 6, whose choices are (0, 0), (0, 1), (1, 0) and (1, 1).
        self.assertEqual(game_form(table), (2, ((0, 0, 1, 0), (1, 1, 1, 0), (0, 0, 1, 0)), (OTHER, BEST), (3, 4)))
        self.assertEqual(self.asked(play_of, game, (1, 2, 0)), (2, 2))
        self.assertEqual(self.asked(plan_of, game, (2, 2)), (1, 2, 0))
        self.assertEqual(plan_of(game, (0, 1)), (0, 0, 1))

    def test_one_node(self):
        game = Game(3, ("node", 5, ("best", (9, 0, 4)), ("end", 2), ("end", 0)))
        self.assertEqual(game_form(plan_table(game)), (3, (2, 0), (("best", (2, 0, 1)),), (2,)))
        self.assertEqual(play_of(game, (1,)), (1,))

    def test_gaps_between_player_numbers(self):
        tree = ("node", 7, BEST, ("node", 0, BEST, ZERO, ONE), ("node", 3, BEST, ONE, ZERO))
        table = plan_table(Game(2, tree))
        self.assertEqual(table.table, made_table((2, 2, 2), lambda play: play[0] if play[2] == 0 else 1 - play[1]))

    def test_games_without_nodes(self):
        game = Game(2, ONE)
        for plan in [(), (0,)]:
            self.refused(OutOfRange, play_of, game, plan)
            self.refused(OutOfRange, plan_of, game, plan)
        self.refused(OutOfRange, plan_table, game)

    def test_aims_that_are_not_best(self):
        for term in [ANY, ("second", (0, 1)), ("first", BEST), ("either", BEST, BEST), ("table", ((0, 1), (1,), (0,), (0, 1)))]:
            tree = ("node", 0, BEST, ("node", 0, BEST, ZERO, ONE), ("node", 1, term, ZERO, ONE), ("node", 0, term, ZERO, ONE))
            error = self.refused(NotOrders, plan_table, Game(2, tree))
            self.assertEqual(error.index, 2)
            self.assertEqual(self.refused(NotOrders, plan_table, Game(2, ("node", 0, term, TREE, TREE))).index, 0)

    def test_orders_that_differ(self):
        for nodes, index in [((BEST, 0), 1), ((("best", (0, 0)), 0), 1), ((OTHER, 5), None), ((("best", (9, 3)), 0), None)]:
            tree = ("node", 0, OTHER, ("node", nodes[1], nodes[0], ZERO, ONE), ONE)
            if index is None:
                self.assertEqual(plan_table(Game(2, tree)).outcomes, 2)
            else:
                self.assertEqual(self.refused(NotOrders, plan_table, Game(2, tree)).index, index)
        # Each node is compared with the first one of its player.
        tree = ("node", 0, BEST, ("node", 1, OTHER, ("node", 0, ("best", (4, 5)), ZERO), ("node", 1, BEST, ONE)), ONE)
        self.assertEqual(self.refused(NotOrders, plan_table, Game(2, tree)).index, 3)
        tree = ("node", 0, BEST, ("node", 1, OTHER, ("node", 0, OTHER, ZERO), ("node", 1, BEST, ONE)), ONE)
        self.assertEqual(self.refused(NotOrders, plan_table, Game(2, tree)).index, 2)

    def chain(self, players, options=2):
        """Return a tree with one node for each of the players, one behind another."""
        tree = ONE
        for player in players[::-1]:
            tree = ("node", player, BEST, tree) + (ZERO,) * (options - 1)
        return tree

    def test_too_large(self):
        for players, options in [(range(5), 1), (range(5), 2), (range(8), 1), ([0] * 7, 2), ([0] * 6 + [1] * 3, 2),
                                 ([0] * 3 + [1] * 3 + [2] * 3, 2), ([0] * 12, 2), ([0, 1, 2], 8)]:
            self.refused(TooLarge, plan_table, Game(2, self.chain(list(players), options)))
        for players, options, sizes in [([0, 1, 2, 3], 1, (1, 1, 1, 1)), ([0] * 6, 2, (64,)), ([0] * 6 + [1] * 2, 2, (64, 4)),
                                        ([7, 3] * 4, 2, (16, 16)), ([0, 1, 2, 3], 4, (4, 4, 4, 4)), ([0] * 12, 1, (1,)),
                                        ([0] * 2, 8, (64,)), ([0, 1, 2, 3] * 2, 2, (4, 4, 4, 4))]:
            self.assertEqual(plan_table(Game(2, self.chain(players, options))).sizes, sizes)

    def test_largest_games(self):
        # There are 8 ** 8 choices of one player.
        tree = ("node", 0, BEST) + (("node", 0, BEST) + (ZERO,) * 7,) * 8
        game = Game(2, tree)
        self.refused(TooLarge, plan_table, game)
        self.refused(TooLarge, play_of, game, (0,))
        self.refused(TooLarge, plan_of, game, (9, 9))

    def test_order_of_errors(self):
        tree = self.chain([0, 1, 2, 3, 4, 5, 5])
        tree = tree[:3] + (tree[3], ("node", 0, OTHER, ONE))
        self.assertEqual(self.refused(NotOrders, plan_table, Game(2, tree)).index, 7)

    def test_errors_of_the_plan_table_come_first(self):
        for game, kind in [(Game(2, ONE), OutOfRange), (Game(2, ("node", 0, ANY, ONE)), NotOrders),
                           (Game(2, self.chain([0] * 7)), TooLarge)]:
            for wrong in [(), (0,), (9,), (0,) * 40]:
                self.refused(kind, play_of, game, wrong)
                self.refused(kind, plan_of, game, wrong)

    def test_wrong_plans_and_plays(self):
        game = Game(2, TREE)
        for plan, index in [((), 0), ((0, 0), 2), ((0, 0, 0, 0), 3), ((2, 0, 0), 0), ((0, 3, 0), 1), ((0, -1, 9), 1),
                            ((0, 0, 2), 2)]:
            self.assertEqual(self.refused(InvalidPlan, play_of, game, plan).index, index)
        for play, index in [((), 0), ((0,), 1), ((0, 0, 0), 2), ((3, 0), 0), ((0, 4), 1), ((-1, 9), 0), ((2, -1), 1)]:
            self.assertEqual(self.refused(InvalidPlan, plan_of, game, play).index, index)


class TestInTurn(Case):
    def told_tree(self, game, play=()):
        """Return the tree, by the words of point 118."""
        if len(play) == len(game.sizes):
            return ("end", entry(game.table, play))
        player = len(play)
        below = tuple(self.told_tree(game, play + (option,)) for option in range(game.sizes[player]))
        return ("node", player, game.aims[player].term) + below

    def test_drawn_games(self):
        made = 0
        for table in drawn_tablegames(101, 150):
            tree = self.told_tree(table)
            small = all((size, table.outcomes) in SMALL_SIZES for size in table.sizes)
            if not small or len(nodes_of(tree)) > 30 or len(leaves_of(tree)) > 60:
                self.refused(TooLarge, in_turn_game, table)
                continue
            game = in_turn_game(table)
            self.assertIs(type(game), Game)
            self.assertEqual((game.outcomes, game.tree), (table.outcomes, tree))
            made += 1
        self.assertGreater(made, 60)

    def test_by_hand(self):
        table = TableGame(3, ((0, 1, 2), (2, 1, 0)), (("best", (0, 1, 2)), ("like", 2)))
        self.assertEqual(in_turn_game(table).text(), "(game 3 (node 0 (best (0 1 2)) (node 1 (like 2) (end 0) (end 1) (end 2)) "
                                                     "(node 1 (like 2) (end 2) (end 1) (end 0))))")
        self.assertEqual(in_turn_game(TableGame(2, (1,), (ANY,))).tree, ("node", 0, ANY, ONE))

    def of(self, sizes, outcomes=2):
        return TableGame(outcomes, made_table(sizes, lambda play: sum(play) % outcomes), (ANY,) * len(sizes))

    def test_sizes_that_are_not_small(self):
        for sizes, outcomes in [((9,), 1), ((1, 9), 2), ((6,), 3), ((1, 1, 1, 5), 4), ((64,), 4), ((20, 2), 2)]:
            self.refused(TooLarge, in_turn_game, self.of(sizes, outcomes))
        for sizes, outcomes in [((8,), 1), ((1, 8), 2), ((5,), 3), ((1, 1, 1, 4), 4)]:
            self.assertEqual(len(in_turn_game(self.of(sizes, outcomes)).ends), max(sizes))

    def test_numbers_of_nodes_and_leaves(self):
        # There is a node for the options before each player: 1, and the first size, and the first two multiplied ..
        for sizes, nodes, leaves in [((4, 5, 1), 25, 20), ((7, 3, 1), 29, 21), ((1, 4, 6, 1), 30, 24), ((5, 4, 3), 26, 60),
                                     ((4, 5, 3), 25, 60), ((1, 1, 7, 8), 10, 56)]:
            game = in_turn_game(self.of(sizes))
            self.assertEqual((len(game.nodes), len(game.ends)), (nodes, leaves))
        for sizes in [(5, 5, 1), (4, 4, 2, 1), (8, 8), (5, 5, 2), (4, 4, 4), (4, 4, 4, 4), (3, 3, 7), (2, 4, 8),
                      (1, 5, 5, 1)]:
            self.refused(TooLarge, in_turn_game, self.of(sizes))

    def test_aims_stay(self):
        aim = Aim(("not", ("fixed",)), 2, 2)
        table = TableGame(2, ((0, 1), (1, 0)), (aim.term, BEST))
        self.assertEqual([node.aim.term for node in in_turn_game(table)], [aim.term, BEST, BEST])
