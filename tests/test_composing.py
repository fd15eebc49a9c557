"""Points 61 to 64: a whole game as one aim, as one chooser and as one node."""

import itertools
import random

from choosersrow.aims import Aim
from choosersrow.choosers import Chooser
from choosersrow.composing import composed_aim, composed_chooser, flatten_game, parting_ends
from choosersrow.errors import SizeMismatch, TooLarge
from choosersrow.games import Game
from choosersrow.optimal import plan_by
from choosersrow.turnaims import aim_behind
from choosersrow.turns import put_behind
from tests.gameoracles import ascending, drawn_games, large_game, leaves_of, told_leaf, told_optimal, with_ends
from tests.helpers import SMALL_SIZES, Case
from tests.test_choosers import drawn_chooser
from tests.test_plays import LEAF, MANY, ONE

MET = Game(2, ("node", 3, ("best", (0, 1)), ("end", 0), ("node", 1, ("best", (1, 0)), ("end", 0), ("end", 1))))
UNMET = Game(2, ("node", 3, ("fixed",), ("end", 0), ("node", 1, ("only", ()), ("end", 0)), ("end", 1)))
# The numbers of leaves and outcomes of these games are no small sizes.
WIDE = Game(2, ("node", 0, ("any",), ("node", 0, ("any",)) + (("end", 0),) * 4, ("node", 0, ("any",)) +
            (("end", 1),) * 5))
DEEP = Game(4, ("node", 0, ("any",), ("end", 3), ("node", 0, ("any",)) + (("end", 0),) * 4))
PAIRS = Game(3, ("node", 0, ("any",)) + (("node", 0, ("any",), ("end", 0), ("end", 2)),) * 3)
LARGE = [WIDE, DEEP, PAIRS, large_game("any"), large_game("fixed", 2)]


def all_ends(game):
    return list(itertools.product(range(game.outcomes), repeat=len(game.ends)))


def told_good_leaves(game, ends):
    tree = with_ends(game.tree, ends)
    return ascending(told_leaf(tree, plan) for plan in told_optimal(tree, game.outcomes))


def small_games(seed, many, contexts=256):
    """Return games whose leaves and outcomes are a small size with at most so many contexts."""
    found = []
    while len(found) < many:
        for game in drawn_games(seed, 40, 24):
            if (len(game.ends), game.outcomes) in SMALL_SIZES and len(all_ends(game)) <= contexts:
                found.append(game)
        seed += 1
    return found[:many]


class TestComposedAim(Case):
    def test_drawn_games(self):
        for game in small_games(60, 90, 64) + small_games(600, 12):
            aim = composed_aim(game)
            self.assertIs(type(aim), Aim)
            self.assertEqual((aim.options, aim.outcomes, aim.term[0]), (len(game.ends), game.outcomes, "table"))
            self.assertEqual(aim.term[1], tuple(told_good_leaves(game, ends) for ends in all_ends(game)))
            self.assertEqual(composed_aim(game).term, aim.term)

    def test_no_nodes(self):
        for outcomes in range(1, 5):
            aim = composed_aim(Game(outcomes, ("end", 0)))
            self.assertEqual((aim.options, aim.outcomes, aim.term), (1, outcomes, ("table", ((0,),) * outcomes)))

    def test_ends_do_not_matter(self):
        for game in (MET, UNMET):
            for ends in all_ends(game):
                self.assertEqual(composed_aim(game.with_ends(ends)).term, composed_aim(game).term)

    def test_aims_that_are_not_met(self):
        self.assertEqual(composed_aim(UNMET).term, ("table", ((),) * 8))

    def test_two_levels_are_aims_in_turn(self):
        for game in small_games(61, 150):
            if len(game.nodes) == 3 and game.nodes[0].children == (("node", 1), ("node", 2)):
                first, *nexts = [node.aim for node in game]
                self.assertEqual(composed_aim(game).term, aim_behind(first, tuple(nexts)).term)

    def test_too_large(self):
        for game in LARGE:
            self.refused(TooLarge, composed_aim, game)
        self.assertEqual(composed_aim(Game(1, ("node", 0, ("any",)) + (("end", 0),) * 8)).options, 8)


class TestComposedChooser(Case):
    def test_drawn_games(self):
        source = random.Random(62)
        for game in small_games(63, 60, 81) + small_games(64, 8):
            choosers = tuple(drawn_chooser(source, node.aim.options, game.outcomes) for node in game)
            chooser = composed_chooser(game, choosers)
            self.assertIs(type(chooser), Chooser)
            self.assertEqual((chooser.options, chooser.outcomes), (len(game.ends), game.outcomes))
            row = []
            for ends in all_ends(game):
                tree = with_ends(game.tree, ends)
                row.append(told_leaf(tree, plan_by(Game(game.outcomes, tree), choosers)))
            self.assertEqual(chooser.row, tuple(row))
            self.assertEqual(composed_chooser(game, choosers).row, chooser.row)

    def test_two_levels_are_choosers_in_turn(self):
        source = random.Random(65)
        for game in small_games(66, 150):
            if len(game.nodes) == 3 and game.nodes[0].children == (("node", 1), ("node", 2)):
                first, *nexts = [drawn_chooser(source, node.aim.options, game.outcomes) for node in game]
                self.assertEqual(composed_chooser(game, (first, *nexts)).row, put_behind(first, tuple(nexts)).row)

    def test_no_nodes(self):
        chooser = composed_chooser(Game(3, ("end", 2)), ())
        self.assertEqual((chooser.options, chooser.outcomes, chooser.row), (1, 3, (0, 0, 0)))

    def test_numbers_of_choosers(self):
        two = Chooser.constant(2, 2, 0)
        for game in (LEAF, MET, WIDE):
            for many in range(len(game.nodes) + 3):
                if many != len(game.nodes):
                    self.refused(SizeMismatch, composed_chooser, game, (two,) * many)

    def test_sizes_of_choosers(self):
        two, three, other = Chooser.constant(2, 2, 0), Chooser.constant(3, 2, 0), Chooser.constant(2, 3, 0)
        self.assertEqual(composed_chooser(MET, (two, two)).options, 3)
        for choosers in [(three, two), (two, three), (other, two), (two, other), (other, other), (three, two, two)]:
            self.refused(SizeMismatch, composed_chooser, MET, choosers)

    def test_too_large(self):
        for game in LARGE:
            choosers = tuple(Chooser.constant(node.aim.options, game.outcomes, 0) for node in game)
            self.refused(TooLarge, composed_chooser, game, choosers)
            # Wrong choosers are told first.
            self.refused(SizeMismatch, composed_chooser, game, choosers[:-1])
            self.refused(SizeMismatch, composed_chooser, game, choosers + choosers[:1])
            self.refused(SizeMismatch, composed_chooser, game, choosers[:-1] + (Chooser.constant(1, 1, 0),))


class TestPartingEnds(Case):
    def test_drawn_games(self):
        games = small_games(67, 120, 81)
        equal = different = 0
        for first, second in zip(games, games[1:] + games[:1]):
            for other in [each for each in games if (len(each.ends), each.outcomes) == (len(first.ends),
                          first.outcomes)][:3]:
                told = [ends for ends in all_ends(first) if told_good_leaves(first, ends) !=
                        told_good_leaves(other, ends)]
                self.assertEqual(self.asked(parting_ends, first, other), told[0] if told else None)
                equal, different = equal + (not told), different + bool(told)
            if (len(first.ends), first.outcomes) != (len(second.ends), second.outcomes):
                self.refused(SizeMismatch, parting_ends, first, second)
        self.assertGreater(min(equal, different), 20)

    def test_equal_good_leaves(self):
        flat = Game(2, ("node", 0, ("best", (3, 5)), ("end", 1), ("end", 1), ("end", 1)))
        nested = Game(2, ("node", 1, ("best", (0, 1)), ("node", 2, ("best", (0, 9)), ("end", 0), ("end", 0)),
                          ("end", 0)))
        self.assertIsNone(parting_ends(flat, nested))
        self.assertIsNone(parting_ends(MET, MET.with_ends((1, 1, 1))))
        self.assertEqual(parting_ends(flat, MET), (0, 0, 1))
        self.assertEqual(parting_ends(LEAF, Game(2, ("node", 0, ("only", ()), ("end", 0)))), (0,))

    def test_other_sizes(self):
        three = Game(3, ("node", 0, ("any",), ("end", 0), ("end", 1), ("end", 2)))
        for first, second in [(LEAF, MET), (MET, LEAF), (MET, three), (three, MET), (WIDE, MET), (MET, WIDE),
                              (WIDE, large_game("any", 2)), (large_game("any", 3), large_game("any", 2))]:
            self.refused(SizeMismatch, parting_ends, first, second)

    def test_too_large(self):
        for game in LARGE:
            self.refused(TooLarge, parting_ends, game, game)
        self.refused(TooLarge, parting_ends, large_game("any"), large_game("most"))


class TestFlattenGame(Case):
    def test_drawn_games(self):
        for game in small_games(68, 60):
            flat = flatten_game(game)
            self.assertIs(type(flat), Game)
            self.assertEqual((flat.outcomes, flat.ends), (game.outcomes, game.ends))
            if not game.nodes:
                self.assertEqual(flat.tree, game.tree)
                continue
            leaves = tuple(part for _, part in leaves_of(game.tree))
            self.assertEqual(flat.tree, ("node", game.nodes[0].player, composed_aim(game).term) + leaves)
            self.assertIsNone(parting_ends(game, flat))
            self.assertEqual(flatten_game(flat).tree, flat.tree)

    def test_leaves(self):
        for outcomes in range(1, 5):
            for outcome in range(outcomes):
                self.assertEqual(flatten_game(Game(outcomes, ("end", outcome))).tree, ("end", outcome))

    def test_player(self):
        self.assertEqual([node.player for node in flatten_game(MET)], [3])
        self.assertEqual([node.player for node in flatten_game(ONE)], [0])

    def test_too_large(self):
        for game in LARGE:
            self.refused(TooLarge, flatten_game, game)
        # MANY has 6 leaves and 3 outcomes: 729 contexts.
        self.refused(TooLarge, flatten_game, MANY)
