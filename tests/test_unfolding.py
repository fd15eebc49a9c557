"""Points 110 to 112: loose games unfolded and cut, and games folded."""

import time

from choosersrow.errors import EndlessGame, InvalidPlan, OutOfRange, TooLarge
from choosersrow.games import Game
from choosersrow.loosegames import LooseGame, round_way
from choosersrow.plays import play_out, require_plan
from choosersrow.unfolding import cut_game, fold_game, unfold_game, unfolded_plan
from tests.gameoracles import drawn_games, leaves_of, nodes_of, parts_of
from tests.helpers import Case
from tests.looseoracles import (ANY, all_stand_plans, drawn_loose, ladder, led_outcome, loose_text, told_tree, visits)

END = ("end", 0)


def game_form(game):
    return (game.outcomes, game.tree)


def sizes_of(tree):
    """Return the numbers of nodes and leaves, and the greatest number of nodes on a way."""
    levels = max([len(way) + 1 for way, _ in nodes_of(tree)], default=0)
    return len(nodes_of(tree)), len(leaves_of(tree)), levels


def fits(tree):
    nodes, leaves, levels = sizes_of(tree)
    return nodes <= 30 and leaves <= 60 and levels <= 12


def fan(widths):
    """Return stands: stand 0 leads to nodes with so many options each, which all lead to one end stand."""
    many = len(widths)
    stands = (("stand", 0, ANY) + tuple(range(1, many + 1)),)
    return stands + tuple(("stand", 0, ANY) + (many + 1,) * width for width in widths) + (END,)


class TestUnfolding(Case):
    def test_drawn_loose_games(self):
        for loose in drawn_loose(80, 150, 8):
            tree = told_tree(loose.stands, 0)
            if not fits(tree):
                self.refused(TooLarge, unfold_game, loose)
                continue
            game = unfold_game(loose)
            self.assertIs(type(game), Game)
            self.assertEqual(game_form(game), (loose.outcomes, tree))
            for node in game:
                stand = loose.stands[visits(loose.stands, node.way)[-1]]
                self.assertEqual((node.player, node.aim.term), stand[1:3])

    def test_by_hand(self):
        loose = loose_text("(stand 2 (best (0 1)) 1 1 2) (stand 7 (like 0) 2 3) (end 0) (end 1)")
        below = ("node", 7, ("like", 0), ("end", 0), ("end", 1))
        self.assertEqual(game_form(unfold_game(loose)), (2, ("node", 2, ("best", (0, 1)), below, below, ("end", 0))))
        self.assertEqual(unfolded_plan(loose, (1, 0, None, None)), (1, 0, 0))
        self.assertEqual(unfolded_plan(loose, (2, 1, None, None)), (2, 1, 1))
        self.assertEqual(game_form(unfold_game(loose_text("(end 1) (stand 0 (any) 0)"))), (2, ("end", 1)))
        self.assertEqual(unfolded_plan(loose_text("(end 1) (stand 0 (any) 0)"), (None, None)), ())

    def test_plans(self):
        for loose in drawn_loose(81, 120, 7):
            if not fits(told_tree(loose.stands, 0)):
                continue
            game = unfold_game(loose)
            for plan in all_stand_plans(loose.stands)[:40]:
                unfolded = unfolded_plan(loose, plan)
                self.assertIsNone(require_plan(game, unfolded))
                self.assertEqual(unfolded, tuple(plan[visits(loose.stands, node.way)[-1]] for node in game))
                self.assertEqual(play_out(game, unfolded)[1], led_outcome(loose.stands, plan, 0))

    def check(self, stands, sizes, allowed):
        loose = LooseGame(2, stands)
        plan = tuple(0 if stand[0] == "stand" else None for stand in stands)
        self.assertEqual(sizes_of(told_tree(stands, 0)), sizes)
        if allowed:
            self.assertEqual(sizes_of(unfold_game(loose).tree), sizes)
            self.assertEqual(len(unfolded_plan(loose, plan)), sizes[0])
            return
        self.refused(TooLarge, unfold_game, loose)
        self.refused(TooLarge, unfolded_plan, loose, plan)
        self.assertEqual(self.refused(InvalidPlan, unfolded_plan, loose, plan[:1] + (99,) + plan[2:]).index, 1)

    def test_numbers_of_nodes(self):
        # A ladder of two options has 2 ** steps - 1 nodes.
        self.check(ladder(4), (15, 16, 4), True)
        self.check(ladder(5), (31, 32, 5), False)
        # Behind stand 0 stand the part with 15 nodes and one with 14 nodes, or the one with 15 nodes twice.
        part = tuple(stand if stand[0] == "end" else stand[:3] + tuple(target + 1 for target in stand[3:])
                     for stand in ladder(4))
        other = (("stand", 0, ANY, 2, 7), ("stand", 0, ANY, 3, 8), ("stand", 0, ANY, 4, 5))
        self.check((("stand", 0, ANY, 1, 6),) + part + other, (30, 31, 5), True)
        self.check((("stand", 0, ANY, 1, 1),) + part, (31, 32, 5), False)

    def test_numbers_of_leaves(self):
        self.check(fan((8, 8, 8, 8, 7, 7, 7, 7)), (9, 60, 2), True)
        self.check(fan((8, 8, 8, 8, 8, 7, 7, 7)), (9, 61, 2), False)
        self.check(fan((8,) * 8), (9, 64, 2), False)

    def test_levels(self):
        for steps in (11, 12):
            self.check(ladder(steps, 1), (steps, 1, steps), True)
        for steps in (13, 20):
            self.check(ladder(steps, 1), (steps, 1, steps), False)

    def test_very_many_ways(self):
        begin = time.perf_counter()
        self.check(ladder(12), (4095, 4096, 12), False)
        loose = LooseGame(2, ladder(29, 8))
        self.refused(TooLarge, unfold_game, loose)
        self.refused(TooLarge, unfolded_plan, loose, (0,) * 29 + (None,))
        self.assertEqual(self.refused(InvalidPlan, unfolded_plan, loose, (0,) * 29 + (0,)).index, 29)
        self.assertLess(time.perf_counter() - begin, 5)

    def test_wrong_plans_come_first(self):
        loose = LooseGame(2, ladder(13, 1))
        for plan, index in [((), 0), ((0,) * 14, 13), ((0,) * 13, 13), ((0,) * 13 + (None, None), 14)]:
            self.assertEqual(self.refused(InvalidPlan, unfolded_plan, loose, plan).index, index)
        self.refused(TooLarge, unfolded_plan, loose, (0,) * 13 + (None,))

    def test_endless_games(self):
        loose = loose_text("(stand 0 (any) 1 0) (end 0)")
        self.assertEqual(self.refused(EndlessGame, unfold_game, loose).way, (1,))
        self.assertEqual(self.refused(EndlessGame, unfolded_plan, loose, (9, 9)).way, (1,))


class TestCutting(Case):
    def test_drawn_loose_games(self):
        for loose in drawn_loose(82, 80, 6, False) + drawn_loose(83, 60, 8):
            for length in range(5):
                outcome = length % loose.outcomes
                tree = told_tree(loose.stands, 0, length, outcome)
                if not fits(tree):
                    self.refused(TooLarge, cut_game, loose, length=length, outcome=outcome)
                    continue
                game = cut_game(loose, length=length, outcome=outcome)
                self.assertIs(type(game), Game)
                self.assertEqual(game_form(game), (loose.outcomes, tree))

    def test_by_hand(self):
        loose = loose_text("(stand 2 (most) 1 0) (end 0)", 3)
        for length, tree in [(0, ("end", 2)), (1, ("node", 2, ("most",), END, ("end", 2))),
                             (2, ("node", 2, ("most",), END, ("node", 2, ("most",), END, ("end", 2))))]:
            self.assertEqual(game_form(cut_game(loose, length=length, outcome=2)), (3, tree))
        self.assertEqual(game_form(cut_game(loose_text("(end 1)"), length=0, outcome=0)), (2, ("end", 1)))

    def test_lengths(self):
        endless = loose_text("(stand 0 (any) 0)")
        self.assertEqual(round_way(endless), (0,))
        for length in (0, 1, 11, 12):
            game = cut_game(endless, length=length, outcome=1)
            self.assertEqual((len(game.nodes), game.ends), (length, (1,)))
        for length in (-1, 13, 14, 10 ** 20):
            for outcome in (0, 1, 9):
                self.refused(OutOfRange, cut_game, endless, length=length, outcome=outcome)

    def test_outcomes(self):
        for outcomes in (1, 2, 3, 4):
            loose = LooseGame(outcomes, (("stand", 0, ANY, 0),))
            self.assertEqual(cut_game(loose, length=3, outcome=outcomes - 1).ends, (outcomes - 1,))
            for outcome in (-1, outcomes, 10 ** 20):
                self.refused(OutOfRange, cut_game, loose, length=3, outcome=outcome)

    def test_out_of_range_comes_first(self):
        loose = LooseGame(2, (("stand", 0, ANY) + (0,) * 8,))
        for length, outcome in [(13, 0), (-1, 0), (12, 2), (12, -1)]:
            self.refused(OutOfRange, cut_game, loose, length=length, outcome=outcome)
        self.refused(TooLarge, cut_game, loose, length=12, outcome=0)

    def test_sizes(self):
        double = LooseGame(2, (("stand", 0, ANY, 0, 0),))
        self.assertEqual(sizes_of(cut_game(double, length=4, outcome=1).tree), (15, 16, 4))
        self.refused(TooLarge, cut_game, double, length=5, outcome=1)
        eight = LooseGame(2, (("stand", 0, ANY) + (0,) * 8,))
        self.assertEqual(sizes_of(cut_game(eight, length=1, outcome=1).tree), (1, 8, 1))
        self.refused(TooLarge, cut_game, eight, length=2, outcome=1)
        # 30 nodes and 31 nodes, and 60 leaves and 61 leaves, where the ways are cut.
        thirty = LooseGame(2, (("stand", 0, ANY, 1, 2, 3, 4, 5), ("stand", 0, ANY) + (6,) * 5, ("stand", 0, ANY) + (6,) * 5,
                               ("stand", 0, ANY) + (6,) * 5, ("stand", 0, ANY) + (6,) * 5, ("stand", 0, ANY) + (6,) * 4,
                               ("stand", 0, ANY, 6)))
        self.assertEqual(sizes_of(cut_game(thirty, length=3, outcome=1).tree), (30, 24, 3))
        more = LooseGame(2, thirty.stands[:5] + (("stand", 0, ANY) + (6,) * 5,) + thirty.stands[6:])
        self.assertEqual(sizes_of(told_tree(more.stands, 0, 3, 1)), (31, 25, 3))
        self.refused(TooLarge, cut_game, more, length=3, outcome=1)
        self.assertEqual(sizes_of(cut_game(LooseGame(2, fan((8, 8, 8, 8, 7, 7, 7, 7))), length=12, outcome=1).tree), (9, 60, 2))
        self.refused(TooLarge, cut_game, LooseGame(2, fan((8, 8, 8, 8, 8, 7, 7, 7))), length=2, outcome=1)
        self.assertEqual(len(cut_game(LooseGame(2, fan((8,) * 8)), length=1, outcome=1).ends), 8)

    def test_long_games_that_are_not_endless(self):
        loose = LooseGame(2, ladder(20, 1))
        self.assertEqual(cut_game(loose, length=12, outcome=1).ends, (1,))
        self.refused(TooLarge, unfold_game, loose)


class TestFolding(Case):
    def told_fold(self, tree):
        """Return the stands, by the words of point 112."""
        trees = []
        for _, part in parts_of(tree):
            if part not in trees:
                trees.append(part)
        return tuple(part if part[0] == "end" else ("stand",) + part[1:3] + tuple(trees.index(below) for below in part[3:])
                     for part in trees)

    def test_drawn_games(self):
        for game in drawn_games(84, 120):
            stands = self.told_fold(game.tree)
            if len(stands) > 30:
                self.refused(TooLarge, fold_game, game)
                continue
            loose = fold_game(game)
            self.assertIs(type(loose), LooseGame)
            self.assertEqual((loose.outcomes, loose.stands), (game.outcomes, stands))
            self.assertEqual(loose.reached, tuple(range(len(stands))))
            self.assertEqual(game_form(unfold_game(loose)), game_form(game))

    def test_equal_trees(self):
        game = Game(2, ("node", 0, ANY, ("node", 1, ANY, ("end", 1), END), END, ("node", 1, ANY, ("end", 1), END),
                        ("node", 2, ANY, ("end", 1), END), ("end", 1)))
        self.assertEqual(fold_game(game).stands, (("stand", 0, ANY, 1, 3, 1, 4, 2), ("stand", 1, ANY, 2, 3), ("end", 1), END,
                                                  ("stand", 2, ANY, 2, 3)))

    def test_order_of_stands(self):
        game = Game(2, ("node", 0, ANY, END, ("node", 0, ANY, ("node", 0, ("most",), END), ("end", 1)), ("end", 1)))
        self.assertEqual(fold_game(game).stands, (("stand", 0, ANY, 1, 2, 4), END, ("stand", 0, ANY, 3, 4),
                                                  ("stand", 0, ("most",), 1), ("end", 1)))
        self.assertEqual(fold_game(Game(4, ("end", 3))).stands, (("end", 3),))

    def test_aims_that_differ_in_writing_only(self):
        game = Game(2, ("node", 0, ANY, ("node", 0, ("best", (0, 1)), END), ("node", 0, ("best", (0, 2)), END)))
        self.assertEqual(len(fold_game(game).stands), 4)

    def test_numbers_of_trees(self):
        def node(player, *below):
            return ("node", player, ANY) + below
        # 27 different nodes and the root, with two different leaves.
        kinds = [node(player, *ends) for player in range(8) for ends in [(END,), (("end", 1),), (END, END)]] + [
            node(0, ("end", 1), END), node(1, ("end", 1), END), node(2, ("end", 1), END), node(3, ("end", 1), END)]

        def spread(parts):
            groups = [node(7, *parts[start:start + 8]) for start in range(0, len(parts), 8)]
            return node(7, *groups)
        for many, trees in [(24, 30), (23, 29)]:
            game = Game(2, spread(kinds[:many]))
            self.assertEqual(len(self.told_fold(game.tree)), trees)
            self.assertEqual(len(fold_game(game).stands), trees)
        game = Game(2, spread(kinds[:25]))
        self.assertEqual(len(self.told_fold(game.tree)), 32)
        self.refused(TooLarge, fold_game, game)
        game = Game(2, node(6, *spread(kinds[:24])[3:]))
        self.assertEqual(len(fold_game(game).stands), 30)
        game = Game(2, node(7, *spread(kinds[:24])[3:], node(7, ("end", 1), ("end", 1))))
        self.assertEqual(len(self.told_fold(game.tree)), 31)
        self.refused(TooLarge, fold_game, game)
