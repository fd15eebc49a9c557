"""Points 48 and 49: grafts, their plans, parts of plans, and games in levels."""

import itertools
import random

from choosersrow.errors import InvalidAim, InvalidGame, InvalidPlan, OutOfRange, SizeMismatch, TooLarge
from choosersrow.games import Game
from choosersrow.grafting import cut_plan, graft_games, join_plans, level_game
from tests.gameoracles import all_plans, chain, drawn_games, large_game, leaves_of, nodes_of, parts_of
from tests.helpers import Case
from tests.oracles import drawn_term
from tests.test_plays import LEAF, MANY, ONE, wrong_plans

NODE = Game(2, ("node", 4, ("any",), ("end", 0), ("end", 1)))


def told_graft(tree, trees):
    rest = iter(trees)

    def grown(part):
        return next(rest) if part[0] == "end" else part[:3] + tuple([grown(below) for below in part[3:]])
    return grown(tree)


def told_join(tree, plan, trees, plans):
    """Return the joined plan: each node of the graft is looked up by its way."""
    options = {way: option for (way, _), option in zip(nodes_of(tree), plan, strict=True)}
    for (start, _), below, entries in zip(leaves_of(tree), trees, plans, strict=True):
        for (way, _), option in zip(nodes_of(below), entries, strict=True):
            options[start + way] = option
    return tuple(options[way] for way, _ in nodes_of(told_graft(tree, trees)))


def leaf_games(game, node_at=()):
    """Return a game for each leaf: a leaf, or a node where the number is given."""
    return tuple(NODE if leaf in node_at else LEAF for leaf in range(len(game.ends)))


class TestGraft(Case):
    def test_drawn_games(self):
        source = random.Random(20)
        games = [game for game in drawn_games(21, 200, 60) if game.outcomes == 2]
        small = [game for game in games if len(game.nodes) <= 3]
        many = 0
        for game in games:
            others = tuple(source.choice(small) for _ in game.ends)
            trees = [other.tree for other in others]
            told = told_graft(game.tree, trees)
            if len(nodes_of(told)) > 30 or len(leaves_of(told)) > 60:
                self.refused(TooLarge, graft_games, game, others)
                continue
            many += 1
            graft = graft_games(game, others)
            self.assertIs(type(graft), Game)
            self.assertEqual((graft.outcomes, graft.tree), (2, told))
            plan = tuple(source.randrange(node.aim.options) for node in game)
            plans = tuple(tuple(source.randrange(node.aim.options) for node in other) for other in others)
            self.assertEqual(self.asked(join_plans, game, plan, others, plans),
                             told_join(game.tree, plan, trees, plans))
        self.assertGreater(many, 20)

    def test_leaves(self):
        self.assertEqual(graft_games(LEAF, (NODE,)).tree, NODE.tree)
        self.assertEqual(graft_games(LEAF, (LEAF,)).tree, LEAF.tree)
        self.assertEqual(graft_games(NODE, (LEAF, LEAF)).ends, (1, 1))
        self.assertEqual(join_plans(LEAF, (), (NODE,), ((1,),)), (1,))
        self.assertEqual(join_plans(NODE, (1,), (LEAF, LEAF), ((), ())), (1,))
        self.assertEqual(join_plans(LEAF, (), (LEAF,), ((),)), ())

    def test_number_of_games(self):
        for game in (LEAF, ONE, NODE):
            for many in range(len(game.ends) + 3):
                if many != len(game.ends):
                    self.refused(SizeMismatch, graft_games, game, (NODE,) * many)
                    plan = (0,) * len(game.nodes)
                    self.refused(SizeMismatch, join_plans, game, plan, (NODE,) * many, ((0,),) * many)

    def test_other_outcomes(self):
        for other in (Game(1, ("end", 0)), Game(3, ("end", 0)), Game(4, NODE.tree)):
            for games in [(other, LEAF), (LEAF, other), (other, other)]:
                self.refused(SizeMismatch, graft_games, NODE, games)
                self.refused(SizeMismatch, join_plans, NODE, (0,), games, ((), ()))

    def test_30_and_31_nodes(self):
        # Leaf 0 of the chain is below 12 nodes, and each further one below one node less, from 12 on.
        game = Game(2, chain(("any",), 12))
        three = Game(2, ("node", 0, ("any",), NODE.tree, NODE.tree))
        for many, nodes in [(0, 27), (3, 30), (4, 31), (5, 32)]:
            games = [LEAF] * 13
            games[5:10] = [three] * 5
            for leaf in [2, 3, 4, 10, 11][:many]:
                games[leaf] = NODE
            self.check_size(game, tuple(games), nodes, nodes <= 30)

    def test_60_and_61_leaves(self):
        game = Game(2, ("node", 0, ("any",)) + (("end", 0),) * 8)
        eight, four = Game(2, game.tree), Game(2, ("node", 1, ("most",)) + (("end", 1),) * 4)
        five = Game(2, ("node", 1, ("most",)) + (("end", 1),) * 5)
        self.check_size(game, (eight,) * 7 + (four,), 9, True)
        self.check_size(game, (eight,) * 7 + (five,), 9, False)
        self.check_size(game, (five,) + (eight,) * 7, 9, False)
        self.assertEqual(len(graft_games(game, (eight,) * 7 + (four,)).ends), 60)

    def check_size(self, game, games, nodes, fits):
        plan, plans = (0,) * len(game.nodes), tuple((0,) * len(other.nodes) for other in games)
        if fits:
            self.assertEqual(len(graft_games(game, games).nodes), nodes)
            self.assertEqual(join_plans(game, plan, games, plans), (0,) * nodes)
        else:
            self.refused(TooLarge, graft_games, game, games)
            self.refused(TooLarge, join_plans, game, plan, games, plans)
            # A wrong plan is told after that.
            self.refused(TooLarge, join_plans, game, (9,), games, plans)

    def test_levels(self):
        # The node at the end of a way through 11 others is below 11 others; one more is too deep.
        for many in range(1, 12):
            game, deep = Game(2, chain(("any",), many)), Game(2, chain(("any",), 12 - many))
            fits = (deep,) + (LEAF,) * many
            self.assertEqual(max(len(way) for way, _ in nodes_of(graft_games(game, fits).tree)), 11)
            deeper = Game(2, chain(("any",), 13 - many))
            self.refused(TooLarge, graft_games, game, (deeper,) + (LEAF,) * many)
            self.refused(TooLarge, join_plans, game, (0,) * many, (deeper,) + (LEAF,) * many,
                         ((0,) * (13 - many),) + ((),) * many)
            # A deep game fits where the leaf is not so deep.
            self.assertEqual(len(graft_games(game, (LEAF,) * many + (Game(2, chain(("any",), 11)),)).nodes), many + 11)
        self.refused(TooLarge, graft_games, Game(2, chain(("any",), 12)), (NODE,) + (LEAF,) * 12)
        self.assertEqual(len(graft_games(LEAF, (Game(2, chain(("any",), 12)),)).nodes), 12)

    def test_everything_too_large(self):
        large = large_game("any", 2)
        self.refused(TooLarge, graft_games, large, (large,) * 60)
        self.refused(TooLarge, join_plans, large, (), (large,) * 60, ((),) * 60)

    def test_order_of_errors(self):
        large, three = large_game("any", 2), Game(3, ("end", 0))
        # A wrong number of games, or another number of outcomes, is told before the graft is too large.
        self.refused(SizeMismatch, graft_games, large, (large,) * 59 + (three,))
        self.refused(SizeMismatch, graft_games, large, (large,) * 59)
        self.refused(SizeMismatch, join_plans, large, (9,), (large,) * 60, ((9,),) * 59)
        self.refused(SizeMismatch, join_plans, large, (9,), (large,) * 60, ((9,),) * 61)
        self.refused(SizeMismatch, join_plans, large, (9,), (large,) * 61, ((9,),) * 61)
        self.refused(SizeMismatch, join_plans, NODE, (9,), (three, three), ((), ()))
        self.refused(TooLarge, join_plans, large, (9,), (large,) * 60, ((9,),) * 60)


class TestJoinPlans(Case):
    def test_wrong_plan_of_the_game(self):
        for plan, index in wrong_plans(MANY):
            leaf = Game(3, ("end", 0))
            error = self.refused(InvalidPlan, join_plans, MANY, plan, (leaf,) * 6, ((),) * 6)
            self.assertEqual(error.index, index)
            # It is told before those of the other plans.
            error = self.refused(InvalidPlan, join_plans, MANY, plan, (leaf,) * 6, ((1, 2, 3),) * 6)
            self.assertEqual(error.index, index)

    def test_wrong_plans_of_the_games(self):
        games = (ONE, NODE)
        for first, second, index in [((3,), (0,), 0), ((0,), (2,), 0), ((), (0, 0), 0), ((0,), (0, 0), 1),
                                     ((0, 0, 0), (9,), 1), ((2, 7), (-1,), 1), ((0,), (), 0), ((-1, 0), (0, 0), 0)]:
            error = self.refused(InvalidPlan, join_plans, NODE, (1,), games, (first, second))
            self.assertEqual(error.index, index)

    def test_each_number_of_plans(self):
        for many in range(6):
            if many != 2:
                self.refused(SizeMismatch, join_plans, NODE, (0,), (LEAF, LEAF), ((),) * many)


class TestCutPlan(Case):
    def test_all_ways(self):
        for game in drawn_games(22, 40, 40) + [MANY]:
            for plan in all_plans(game.tree)[::7]:
                for way, part in parts_of(game.tree):
                    options = {at: option for (at, _), option in zip(nodes_of(game.tree), plan, strict=True)}
                    told = tuple(options[way + at] for at, _ in nodes_of(part))
                    self.assertEqual(self.asked(cut_plan, game, plan, way), told)

    def test_ways_that_lead_nowhere(self):
        for way in [(3,), (-1,), (0, 2), (1, 0), (0, 0, 0), (0, 1, 2), (2, 2), (2, 0, 0), (0, 1, 1, 0), (10 ** 20,)]:
            self.refused(OutOfRange, cut_plan, MANY, (0, 0, 0, 0), way)
        for way in [(0,), (-1,), (0, 0)]:
            self.refused(OutOfRange, cut_plan, LEAF, (), way)

    def test_wrong_plan_first(self):
        for plan, index in wrong_plans(MANY):
            for way in [(), (0, 1), (1,), (3,), (1, 0)]:
                self.assertEqual(self.refused(InvalidPlan, cut_plan, MANY, plan, way).index, index)

    def test_by_hand(self):
        for way, plan in [((), (2, 1, 0, 1)), ((0,), (1, 0)), ((0, 0), ()), ((0, 1), (0,)), ((0, 1, 0), ()), ((1,), ()),
                          ((2,), (1,)), ((2, 1), ())]:
            self.assertEqual(cut_plan(MANY, (2, 1, 0, 1), way), plan)
        self.assertEqual(cut_plan(LEAF, (), ()), ())


class TestLevelGame(Case):
    def test_drawn_levels(self):
        source = random.Random(23)
        for _ in range(80):
            outcomes = source.randrange(1, 5)
            widths = source.choice([(), (1,), (2,), (4,), (2, 2), (3, 2), (1, 3, 1), (2, 1, 2, 2), (2, 2, 2, 2)])
            levels = tuple((source.randrange(8), drawn_term(source, width, outcomes, 2), width) for width in widths)
            ways = list(itertools.product(*[range(width) for width in widths]))
            ends = tuple(source.randrange(outcomes) for _ in ways)
            game = level_game(outcomes, levels, ends)
            self.assertIs(type(game), Game)
            self.assertEqual((game.outcomes, game.ends), (outcomes, ends))
            self.assertEqual([way for way, _ in leaves_of(game.tree)], ways)
            for node in game:
                self.assertEqual((node.player, node.aim.term, node.aim.options), levels[len(node.way)])

    def test_no_levels(self):
        self.assertEqual(level_game(2, (), (1,)).tree, ("end", 1))
        for ends in [(), (0, 1), (0, 0, 0)]:
            self.refused(OutOfRange, level_game, 2, (), ends)

    def test_numbers_of_options(self):
        for options in (0, -1, -2):
            for ends in [(), (0,), (0, 0)]:
                self.refused(OutOfRange, level_game, 2, ((0, ("any",), options),), ends)
                self.refused(OutOfRange, level_game, 2, ((0, ("any",), 1), (0, ("any",), options)), ends)
                self.refused(OutOfRange, level_game, 2, ((0, ("any",), options), (0, ("any",), 2)), ends)
        # Two of them multiply to the number of the ends.
        self.refused(OutOfRange, level_game, 2, ((0, ("any",), -1), (0, ("any",), -2)), (0, 1))

    def test_numbers_of_ends(self):
        levels = ((0, ("any",), 2), (0, ("any",), 3))
        for many in range(9):
            if many != 6:
                self.refused(OutOfRange, level_game, 2, levels, (0,) * many)
        # Also if the game would be wrong in other ways.
        self.refused(OutOfRange, level_game, 2, ((9, ("any",), 2),), (7, 7, 7))
        self.refused(OutOfRange, level_game, 2, ((0, ("any",), 9),), (7,) * 8)
        self.refused(OutOfRange, level_game, 2, ((0, ("any",), 10 ** 20),), (0,))

    def test_numbers_of_outcomes(self):
        for outcomes in (0, 5, -1, 10 ** 20):
            self.refused(OutOfRange, level_game, outcomes, (), (0,))
            self.refused(OutOfRange, level_game, outcomes, ((9, ("none",), 1),), (7,))

    def wrong(self, path, *args, cause=None):
        error = self.refused(InvalidGame, level_game, *args)
        self.assertEqual(error.path, path)
        if cause is not None:
            self.assertIs(type(error.__cause__), InvalidAim)
            self.assertEqual(error.__cause__.path, cause)

    def test_wrong_games(self):
        two = ((0, ("any",), 2), (1, ("any",), 1))
        self.wrong((3, 3, 1), 2, two, (2, 0))
        self.wrong((4, 3, 1), 2, two, (0, -1))
        self.wrong((1,), 2, (), (2,))
        self.wrong((1,), 2, ((8, ("any",), 1),), (0,))
        self.wrong((3, 1), 2, ((0, ("any",), 1), (-1, ("any",), 1)), (0,))
        self.wrong((2, 1), 2, ((0, ("like", 2), 2),), (0, 0), cause=(1,))
        self.wrong((3, 2), 2, ((0, ("any",), 1), (0, ("none",), 2)), (0, 0), cause=())
        self.wrong((), 2, ((0, ("any",), 9),), (0,) * 9)
        self.wrong((3,), 4, ((0, ("any",), 1), (0, ("any",), 5)), (0,) * 5)
        self.wrong((3,) * 12, 2, ((0, ("any",), 1),) * 13, (0,))
        self.wrong((3,) * 12, 2, ((0, ("any",), 1),) * 60, (0,))

    def test_too_large(self):
        any_two = (0, ("any",), 2)
        self.assertEqual(len(level_game(2, (any_two,) * 4, (0,) * 16).nodes), 15)
        self.refused(TooLarge, level_game, 2, (any_two,) * 5, (0,) * 32)
        self.assertEqual(len(level_game(2, ((0, ("any",), 7), (0, ("any",), 8)), (0,) * 56).ends), 56)
        self.refused(TooLarge, level_game, 2, ((0, ("any",), 8), (0, ("any",), 8)), (0,) * 64)
        self.wrong((3,) * 5 + (1,), 2, (any_two,) * 5, (2,) * 32)
