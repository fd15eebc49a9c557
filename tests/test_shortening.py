"""Points 65 to 67: the orders of the nodes, and shorter games."""

import functools
import itertools
import random

from choosersrow.aims import Aim
from choosersrow.composing import composed_aim
from choosersrow.games import Game
from choosersrow.gamevalues import game_value, good_leaves
from choosersrow.orders import order_of
from choosersrow.shortening import node_orders, shorten_game
from tests.gameoracles import drawn_games, ends_of, large_tree, nodes_of, told_good, with_ends
from tests.helpers import SMALL_SIZES, Case, contexts
from tests.oracles import drawn_term

HIGH, LOW = ("best", (0, 1)), ("best", (1, 0))


@functools.cache
def told_order(term, options, outcomes):
    """Return the first dense ranks whose best options are the good options, or None."""
    for ranks in itertools.product(range(outcomes), repeat=outcomes):
        if set(ranks) == set(range(max(ranks) + 1)):
            if all(told_good(term, context, outcomes) == told_good(("best", ranks), context, outcomes)
                   for context in contexts(options, outcomes)):
                return ranks
    return None


def told_shorter(tree, outcomes):
    """Return the shortened tree, by the words of point 66."""
    if tree[0] == "end":
        return tree
    options = len(tree) - 3
    behind = [told_shorter(below, outcomes) for below in tree[3:]]
    met = all(told_good(tree[2], context, outcomes) for context in contexts(options, outcomes))
    if options == 1 and met:
        return behind[0]
    ranks = told_order(tree[2], options, outcomes)
    if ranks is None:
        return tree[:3] + tuple(behind)
    looked = 0
    while looked < len(behind):
        part = behind[looked]
        fits = part[0] == "node" and (len(behind) + len(part) - 4, outcomes) in SMALL_SIZES
        if fits and told_order(part[2], len(part) - 3, outcomes) == ranks:
            behind[looked:looked + 1] = part[3:]
            looked += len(part) - 3
        else:
            looked += 1
    return (tree[0], tree[1], ("best", ranks)) + tuple(behind)


def drawn_orders(source, outcomes, depth):
    """Return a tree in which most aims have one of two orders, some of them in other words than best."""
    if depth == 0 or source.random() < 0.2:
        return ("end", source.randrange(outcomes))
    options = source.choice([1, 2, 2, 3])
    ranks = source.choice([(0, 1, 2, 3), (5, 5, 1, 1)])[:outcomes]
    term = source.choice([("best", ranks), ("best", ranks), ("both", ("best", ranks), ("any",)),
                          ("not", ("not", ("best", ranks))), ("else", ("best", ranks), ("fixed",)),
                          ("recode", tuple(range(outcomes)), ("best", ranks)), ("any",),
                          drawn_term(source, options, outcomes, 2)])
    return ("node", source.randrange(8), term) + tuple(drawn_orders(source, outcomes, depth - 1)
                                                       for _ in range(options))


def ordered_games(seed, many):
    """Return games whose nodes have orders, for the most part."""
    source = random.Random(seed)
    found = []
    while len(found) < many:
        outcomes = source.randrange(1, 5)
        tree = drawn_orders(source, outcomes, source.randrange(1, 6))
        if len(nodes_of(tree)) <= 30 and len(ends_of(tree)) <= 60:
            found.append(Game(outcomes, tree))
    return found


def star(term, *trees):
    return ("node", 2, term) + trees


def leaves(many, outcome=0):
    return (("end", outcome),) * many


class TestNodeOrders(Case):
    def test_drawn_games(self):
        for game in drawn_games(70, 40) + ordered_games(71, 60):
            told = tuple(told_order(part[2], len(part) - 3, game.outcomes) for _, part in nodes_of(game.tree))
            self.assertEqual(self.asked(node_orders, game), told)
            self.assertEqual(told, tuple(order_of(Aim(node.aim.term, node.aim.options, game.outcomes))
                                         for node in game))

    def test_by_hand(self):
        self.assertEqual(node_orders(Game(2, ("end", 1))), ())
        tree = star(("among", (1,)), star(("best", (9, 4)), *leaves(2)), star(("second", (0, 1)), *leaves(3)),
                    star(("like", 0), ("end", 0)), star(("among", (0,)), ("end", 0)), star(("any",), *leaves(2)))
        self.assertEqual(node_orders(Game(2, tree)), (None, (1, 0), (1, 0), (0, 0), None, (0, 0)))


class TestShortenGame(Case):
    def test_drawn_games(self):
        shorter = 0
        for game in drawn_games(72, 60) + ordered_games(73, 120):
            short = shorten_game(game)
            self.assertIs(type(short), Game)
            self.assertEqual((short.outcomes, short.tree), (game.outcomes, told_shorter(game.tree, game.outcomes)))
            self.assertEqual(short.ends, game.ends)
            self.assertEqual(shorten_game(short).tree, short.tree)
            shorter += len(short.nodes) < len(game.nodes)
        self.assertGreater(shorter, 60)

    def test_what_it_keeps(self):
        games = [game for game in drawn_games(74, 120) + ordered_games(75, 200)
                 if (len(game.ends), game.outcomes) in SMALL_SIZES][:70]
        for game in games:
            short = shorten_game(game)
            self.assertEqual(composed_aim(short).term, composed_aim(game).term)
            if game.outcomes ** len(game.ends) <= 64:
                for ends in itertools.product(range(game.outcomes), repeat=len(game.ends)):
                    one, other = game.with_ends(ends), short.with_ends(ends)
                    self.assertEqual(other.tree, with_ends(short.tree, ends))
                    self.assertEqual((game_value(one), good_leaves(one)), (game_value(other), good_leaves(other)))

    def test_one_order_alone(self):
        source = random.Random(76)
        for outcomes, most in [(1, 8), (2, 8), (3, 5), (4, 4)]:
            ranks = (0, 2, 2, 5)[:outcomes]
            for _ in range(40):
                tree = drawn_orders(source, outcomes, 4)

                def ordered(part):
                    return part if part[0] == "end" else ("node", 1, ("best", ranks)) + tuple(map(ordered, part[3:]))
                if len(ends_of(tree)) <= most:
                    short = shorten_game(Game(outcomes, ordered(tree)))
                    self.assertLessEqual(len(short.nodes), 1)

    def test_leaf(self):
        self.assertEqual(shorten_game(Game(3, ("end", 2))).tree, ("end", 2))

    def test_nodes_with_one_option(self):
        inside = star(LOW, *leaves(2))
        for term in [("any",), ("most",), ("fixed",), HIGH, ("like", 0), ("only", (0,)), ("first", ("any",))]:
            met = term != ("fixed",)
            tree = star(("only", (1,)), star(term, inside), ("end", 1))
            told = inside if met else star(term, inside)
            self.assertEqual(shorten_game(Game(2, tree)).tree, star(("only", (1,)), told, ("end", 1)), term)
        for term in [("unlike", 0), ("among", (1,)), ("only", ())]:
            self.assertEqual(shorten_game(Game(2, star(term, inside))).tree, star(term, inside))
        # Only 0 can come, so fixed is met here.
        self.assertEqual(shorten_game(Game(1, star(("fixed",), ("end", 0)))).tree, ("end", 0))
        tree = ("end", 1)
        for _ in range(12):
            tree = star(("any",), tree)
        self.assertEqual(shorten_game(Game(2, tree)).tree, ("end", 1))

    def test_aims_in_other_words(self):
        tree = ("node", 5, ("second", (9, 4)), ("end", 0), ("node", 6, ("not", ("best", (1, 0))), *leaves(2)))
        self.assertEqual(shorten_game(Game(2, tree)).tree,
                         ("node", 5, HIGH, ("end", 0), ("node", 6, ("not", ("best", (1, 0))), *leaves(2))))
        tree = ("node", 5, ("second", (9, 4)), ("end", 0), ("node", 6, ("best", (3, 7)), *leaves(2)))
        self.assertEqual(shorten_game(Game(2, tree)).tree, ("node", 5, HIGH) + leaves(3))
        tree = ("node", 5, ("most",), ("node", 6, ("most",), *leaves(2)), ("end", 1))
        # With two options and two outcomes, most takes every option.
        self.assertEqual(shorten_game(Game(2, tree)).tree, ("node", 5, ("best", (0, 0)), *leaves(2), ("end", 1)))

    def test_other_orders_are_not_joined(self):
        tree = star(HIGH, star(LOW, *leaves(2)), star(("any",), *leaves(2)), star(("fixed",), *leaves(2)))
        told = star(HIGH, star(LOW, *leaves(2)), star(("best", (0, 0)), *leaves(2)), star(("fixed",), *leaves(2)))
        self.assertEqual(shorten_game(Game(2, tree)).tree, told)

    def test_joined_trees_are_not_looked_at(self):
        # The inner node is joined with its own parent first; what stays behind was too large for that.
        inner = star(HIGH, *leaves(8))
        tree = star(HIGH, star(HIGH, inner, ("end", 1)), ("end", 1))
        self.assertEqual(shorten_game(Game(2, tree)).tree, star(HIGH, inner, ("end", 1), ("end", 1)))

    def test_too_large_to_join(self):
        two, four, five, seven = [star(HIGH, *leaves(many)) for many in (2, 4, 5, 7)]
        for trees, told in [
                ((four, four), leaves(8)),
                ((four, five), leaves(4) + (five,)),
                ((five, four), leaves(5) + (four,)),
                ((five, four, two), leaves(5) + (four,) + leaves(2)),
                # The tree in the middle is too large, the one to the right of it still fits.
                ((four, five, two), leaves(4) + (five,) + leaves(2)),
                ((seven, two), leaves(7) + (two,)),
                ((two, seven), leaves(2) + (seven,)),
                ((seven, two, two), (seven,) + leaves(4)),
                ((two,) * 8, (two,) * 8),
                ((two,) * 7, leaves(2) + (two,) * 6),
                ((two,) * 5, leaves(6) + (two,) * 2)]:
            self.assertEqual(shorten_game(Game(2, star(HIGH, *trees))).tree, star(HIGH, *told))
            self.assertEqual(told_shorter(star(HIGH, *trees), 2), star(HIGH, *told))
        pair = star(("best", (0, 1, 2)), *leaves(2))
        self.assertEqual(shorten_game(Game(3, star(("best", (0, 1, 2)), pair, pair, pair))).tree,
                         star(("best", (0, 1, 2)), *leaves(4), pair))
        pair = star(("best", (0, 1, 2, 3)), *leaves(2))
        self.assertEqual(shorten_game(Game(4, star(("best", (0, 1, 2, 3)), pair, pair, pair))).tree,
                         star(("best", (0, 1, 2, 3)), *leaves(2), pair, pair))

    def test_players(self):
        tree = ("node", 7, HIGH, ("node", 1, HIGH, *leaves(2)), ("node", 2, LOW, *leaves(2)))
        self.assertEqual([node.player for node in shorten_game(Game(2, tree))], [7, 2])

    def test_large_games(self):
        for term in (("best", (2, 0, 1)), ("second", (0, 1, 2)), ("not", ("best", (0, 1, 1)))):
            game = Game(3, large_tree(lambda options: term, lambda number: number % 3))
            short = shorten_game(game)
            self.assertEqual(short.tree, told_shorter(game.tree, 3))
            self.assertEqual((game_value(short), good_leaves(short)), (game_value(game), good_leaves(game)))
