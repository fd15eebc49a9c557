"""Points 14 to 16 and 17 for games."""

import math
import random

from choosersrow.aims import Aim
from choosersrow.errors import InvalidAim, InvalidGame, InvalidTerm, InvalidText, OutOfRange, TooLarge
from choosersrow.games import Game, Node
from tests.helpers import SMALL_SIZES, Case
from tests.oracles import drawn_term

LEAF = ("end", 0)
TREE = ("node", 3, ("best", (0, 1)),
        ("node", 7, ("most",), ("end", 1), ("node", 0, ("like", 0), ("end", 0)), ("end", 1)),
        ("end", 0),
        ("node", 3, ("any",), ("end", 1), ("end", 0)))


def chain(many, inside=LEAF):
    """Return a tree of so many nodes, each with one option."""
    for _ in range(many):
        inside = ("node", 0, ("any",), inside)
    return inside


def broad(*widths):
    """Return a tree whose root has a node with so many leaves behind each option."""
    return ("node", 0, ("any",)) + tuple(("node", 0, ("any",)) + (LEAF,) * width for width in widths)


def drawn_tree(source, outcomes, depth):
    """Return a tree that is drawn from the random source, at most so deep."""
    options = source.randrange(0, 4)
    if depth == 0 or options == 0:
        return ("end", source.randrange(outcomes))
    term = drawn_term(source, options, outcomes, 2)
    behind = tuple(drawn_tree(source, outcomes, depth - 1) for _ in range(options))
    return ("node", source.randrange(8), term) + behind


def walked(tree, way=()):
    """Yield the pairs of way and tree in reading order."""
    yield way, tree
    if tree[0] == "node":
        for option in range(len(tree) - 3):
            yield from walked(tree[option + 3], way + (option,))


class TestGames(Case):
    def test_attributes(self):
        game = Game(2, TREE)
        self.assertEqual((game.outcomes, game.tree, game.ends), (2, TREE, (1, 0, 1, 0, 1, 0)))
        self.assertIs(type(game.nodes), tuple)
        self.assertEqual([node.way for node in game.nodes], [(), (0,), (0, 1), (2,)])
        self.assertEqual([node.player for node in game.nodes], [3, 7, 0, 3])
        self.assertEqual([node.children for node in game.nodes],
                         [(("node", 1), ("leaf", 3), ("node", 3)), (("leaf", 0), ("node", 2), ("leaf", 2)),
                          (("leaf", 1),), (("leaf", 4), ("leaf", 5))])
        for node, term, options in zip(game.nodes, [("best", (0, 1)), ("most",), ("like", 0), ("any",)], [3, 3, 1, 2]):
            self.assertIs(type(node), Node)
            self.assertIs(type(node.aim), Aim)
            self.assertEqual((node.aim.term, node.aim.options, node.aim.outcomes), (term, options, 2))

    def test_class_values(self):
        self.assertEqual((Game.MOST_NODES, Game.MOST_LEAVES, Game.MOST_LEVELS), (30, 60, 12))

    def test_iterating(self):
        game = Game(2, TREE)
        self.assertEqual(list(game), list(game.nodes))
        self.assertEqual(list(game), list(game))
        self.assertEqual(list(Game(2, LEAF)), [])

    def test_plans(self):
        self.assertEqual(Game(2, TREE).plans, 18)
        self.assertEqual(Game(2, LEAF).plans, 1)
        self.assertEqual(Game(1, broad(*[7] * 8)).plans, 8 * 7 ** 8)
        with self.assertRaises(AttributeError):
            Game(2, TREE).plans = 5

    def test_leaf_alone(self):
        for outcomes in range(1, 5):
            for outcome in range(outcomes):
                game = Game(outcomes, ("end", outcome))
                self.assertEqual((game.nodes, game.ends), ((), (outcome,)))

    def test_drawn_games(self):
        source = random.Random(20)
        for _ in range(150):
            outcomes = source.randrange(1, 5)
            tree = drawn_tree(source, outcomes, 3)
            self.check(Game(outcomes, tree), tree)

    def check(self, game, tree):
        nodes = [(way, part) for way, part in walked(tree) if part[0] == "node"]
        leaves = [(way, part) for way, part in walked(tree) if part[0] == "end"]
        self.assertEqual(game.ends, tuple(part[1] for _, part in leaves))
        self.assertEqual([node.way for node in game], [way for way, _ in nodes])
        self.assertEqual([node.player for node in game], [part[1] for _, part in nodes])
        self.assertEqual([node.aim.term for node in game], [part[2] for _, part in nodes])
        self.assertEqual(game.plans, math.prod(len(part) - 3 for _, part in nodes))
        places = {way: ("node", at) for at, (way, _) in enumerate(nodes)}
        places.update({way: ("leaf", at) for at, (way, _) in enumerate(leaves)})
        for node in game:
            self.assertEqual(node.children, tuple(places[node.way + (x,)] for x in range(node.aim.options)))
        for way, part in walked(tree):
            self.assertEqual(game.part(way).tree, part)


class TestWrongGames(Case):
    def wrong(self, tree, path, outcomes=2, cause=None):
        error = self.refused(InvalidGame, Game, outcomes, tree)
        self.assertEqual(error.path, path, tree)
        if cause is None:
            self.assertIsNone(error.__cause__)
        else:
            self.assertIs(type(error.__cause__), InvalidAim)
            self.assertEqual(error.__cause__.path, cause)

    def test_no_trees(self):
        for part in [(), 0, "end", "node", None, ["end", 0], ("leaf", 0), ("End", 0), (0, 0), (("end",), 0),
                     ("end",), ("end", 0, 0), ("end", 0, LEAF), ("node",), ("node", 0), ("node", 0, ("any",)),
                     ("any",), (None,), ("nodes", 0, ("any",), LEAF), ("aim", 2, 2, LEAF), (0, 0, ("any",), LEAF),
                     ("ends", 0), ("end", 0, ("any",), LEAF)]:
            self.wrong(part, ())
            self.wrong(("node", 0, ("any",), part), (3,))
            self.wrong(("node", 0, ("any",), LEAF, ("node", 0, ("any",), part), part), (4, 3))

    def test_leaves(self):
        for outcome in [2, -1, 99, "a", (), (0,), None, True]:
            self.wrong(("end", outcome), (1,))
            self.wrong(("node", 0, ("any",), LEAF, ("end", outcome)), (4, 1))
        self.wrong(("end", 1), (1,), 1)
        self.wrong(("end", 4), (1,), 4)

    def test_players(self):
        for player in range(8):
            self.assertEqual(Game(2, ("node", player, ("any",), LEAF)).nodes[0].player, player)
        for player in [8, -1, 99, "a", (), None, False]:
            self.wrong(("node", player, ("any",), LEAF), (1,))
            self.wrong(("node", 0, ("any",), LEAF, ("node", player, ("worst",), LEAF)), (4, 1))

    def test_sizes_that_are_not_small(self):
        for options, outcomes in [(9, 1), (9, 2), (6, 3), (5, 4), (20, 1)]:
            self.wrong(("node", 9, ("worst",)) + (LEAF,) * options, (), outcomes)
            self.wrong(("node", 0, ("any",), LEAF, ("node", 0, ("any",)) + (LEAF,) * options), (4,), outcomes)
        for options, outcomes in SMALL_SIZES:
            self.assertEqual(len(Game(outcomes, ("node", 0, ("any",)) + (LEAF,) * options).ends), options)

    def test_levels(self):
        self.assertEqual(len(Game(2, chain(12)).nodes), 12)
        self.wrong(chain(13), (3,) * 12)
        self.wrong(chain(20), (3,) * 12)
        self.wrong(chain(12, ("node", 9, 0, 0)), (3,) * 12)
        self.wrong(chain(12, ("end", 9)), (3,) * 12 + (1,))
        self.wrong(chain(11, ("node", 9, ("any",), LEAF)), (3,) * 11 + (1,))
        self.wrong(("node", 0, ("any",), chain(11), chain(12)), (4,) + (3,) * 11)

    def test_aims(self):
        for term, cause in [(("worst",), ()), (0, ()), ((), ()), (("best", (0, 1, 2)), (1,)),
                            (("best", (0, 10)), (1, 1)), (("like", 2), (1,)), (("not", ("only", (0, 2))), (1, 1, 1)),
                            (("table", ((), (), ())), (1,)), (("table", ((), (), (1, 0), 0)), (1, 2, 1)),
                            (("not",) * 2, (1,)), (("end", 0), ())]:
            self.wrong(("node", 0, term, LEAF, LEAF), (2,) + cause, 2, cause)
            self.wrong(("node", 0, ("like", 0), ("node", 0, term, LEAF, LEAF)), (3, 2) + cause, 2, cause)

    def test_several_wrong_parts(self):
        self.wrong(("node", 8, ("worst",), ("end", 9)), (1,))
        self.wrong(("node", 0, ("worst",), ("end", 9)), (2,), 2, ())
        self.wrong(("node", 0, ("any",), ("end", 9), ("end", 9)), (3, 1))
        self.wrong(("node", 0, ("any",), ("node", 0, ("any",), 7), 7), (3, 3))
        self.wrong(("node", 0, ("any",), ("node", 0, ("like", 1), 7), 7), (3, 2, 1), 2, (1,))
        self.wrong(chain(40, ("end", 9)), (3,) * 12)
        self.wrong(broad(*[8] * 7 + [9]), (10,))
        self.wrong(broad(*[8] * 8)[:-1] + (("node", 0, ("any",)) + (LEAF,) * 7 + (("end", 2),),), (10, 10, 1))

    def test_numbers_of_outcomes(self):
        for outcomes in (0, 5, -1, 10 ** 20):
            for tree in [LEAF, TREE, (), ("end", 9), chain(13), broad(*[8] * 8)]:
                self.refused(OutOfRange, Game, outcomes, tree)

    def test_too_many_nodes(self):
        full = ("node", 0, ("any",), chain(11), chain(11), chain(7))
        self.assertEqual(len(Game(2, full).nodes), 30)
        for tree in [full[:5] + (chain(8),), full + (chain(1),), full + (chain(11),)]:
            self.refused(TooLarge, Game, 2, tree)

    def test_too_many_leaves(self):
        self.assertEqual(len(Game(2, broad(8, 8, 8, 8, 7, 7, 7, 7)).ends), 60)
        for widths in [(8, 8, 8, 8, 8, 7, 7, 7), (8,) * 8]:
            self.refused(TooLarge, Game, 2, broad(*widths))


class TestOtherEndsAndParts(Case):
    def test_with_ends(self):
        game = Game(3, TREE[:2] + (("any",),) + TREE[3:])
        other = game.with_ends((2, 2, 1, 1, 0, 2))
        self.assertIs(type(other), Game)
        self.assertEqual((other.outcomes, other.ends), (3, (2, 2, 1, 1, 0, 2)))
        self.assertEqual(other.tree, ("node", 3, ("any",),
                                      ("node", 7, ("most",), ("end", 2), ("node", 0, ("like", 0), ("end", 2)),
                                       ("end", 1)), ("end", 1), ("node", 3, ("any",), ("end", 0), ("end", 2))))
        self.assertEqual(game.ends, (1, 0, 1, 0, 1, 0))
        self.assertEqual(other.with_ends(game.ends).tree, game.tree)
        self.assertEqual(Game(2, LEAF).with_ends((1,)).tree, ("end", 1))

    def test_wrong_ends(self):
        game = Game(2, TREE)
        for ends in [(), (0,) * 5, (0,) * 7, (0, 0, 0, 0, 0, 2), (-1, 0, 0, 0, 0, 0), (0, 0, "a", 0, 0, 0),
                     (0, 0, 0, 0, 0, (0,)), (0, True, 0, 0, 0, 0), [0] * 6, None]:
            self.refused(OutOfRange, game.with_ends, ends)
        self.refused(OutOfRange, Game(2, LEAF).with_ends, ())
        self.refused(OutOfRange, Game(2, LEAF).with_ends, (0, 0))

    def test_part(self):
        game = Game(2, TREE)
        for way, tree in walked(TREE):
            part = game.part(way)
            self.assertIs(type(part), Game)
            self.assertEqual((part.outcomes, part.tree), (2, tree))
        self.assertEqual(game.part(()).tree, TREE)
        self.assertEqual([node.way for node in game.part((0,))], [(), (1,)])
        self.assertEqual(game.part((0, 1, 0)).ends, (0,))
        self.assertEqual(Game(4, ("end", 3)).part(()).tree, ("end", 3))

    def test_ways_that_lead_nowhere(self):
        game = Game(2, TREE)
        for way in [(3,), (-1,), (0, 3), (0, -1), (1, 0), (0, 0, 0), (2, 1, 0), (2, 2), (0, 1, 1), (0, 1, 0, 0),
                    (10 ** 20,), (1, -1), (1, 1)]:
            self.refused(OutOfRange, game.part, way)
        for way in [(0,), (-1,), (1,), (-2,)]:
            self.refused(OutOfRange, Game(2, LEAF).part, way)


class TestGameTexts(Case):
    def test_text(self):
        text = "(game 2 (node 0 (any) (end 1) (node 1 (most) (end 0) (end 1) (end 1))))"
        self.assertEqual(Game.read(text).text(), text)
        self.assertEqual(Game(4, ("end", 3)).text(), "(game 4 (end 3))")

    def test_read_back(self):
        source = random.Random(21)
        for _ in range(60):
            outcomes = source.randrange(1, 5)
            game = Game(outcomes, drawn_tree(source, outcomes, 3))
            again = Game.read(game.text())
            self.assertIs(type(again), Game)
            self.assertEqual((again.outcomes, again.tree, again.ends), (outcomes, game.tree, game.ends))

    def test_broken_texts(self):
        for text, position in [("", 0), ("(game 2 (end 0)", 15), ("(game 2 (end 0)))", 16), ("(game 9 (end  0))", 13),
                               ("(game 02 (end 0))", 7), ("(game 2 (end 0)) ", 16)]:
            self.assertEqual(self.refused(InvalidText, Game.read, text).position, position, text)

    def test_other_terms(self):
        for text in ["game", "2", "()", "(game)", "(game 2)", "(game 2 (end 0) 0)", "(games 2 (end 0))", "(2 2 2)",
                     "(game a (end 0))", "(game (2) (worst))", "(game () 0)", "(aim 2 2 (any))", "(end 0)"]:
            self.assertEqual(self.refused(InvalidTerm, Game.read, text).path, (), text)

    def test_what_creating_raises(self):
        for text in ["(game 0 (end 0))", "(game 5 (end 9))", "(game 0 worst)"]:
            self.refused(OutOfRange, Game.read, text)
        for text, path in [("(game 2 end)", ()), ("(game 2 7)", ()), ("(game 2 ())", ()), ("(game 2 (end 2))", (1,)),
                           ("(game 2 (node 8 (any) (end 2)))", (1,)), ("(game 2 (node 0 (like 1) (end 2)))", (2, 1))]:
            self.assertEqual(self.refused(InvalidGame, Game.read, text).path, path, text)
        leaves = " ".join(["(node 0 (any)" + " (end 0)" * 8 + ")"] * 8)
        self.refused(TooLarge, Game.read, f"(game 2 (node 0 (any) {leaves}))")
