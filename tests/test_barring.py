"""Points 57 and 58: nodes whose aims are not met, and ends with which no plan is optimal."""

import itertools

from choosersrow.barring import barring_ends, unmet_nodes
from choosersrow.counting import count_plans
from choosersrow.games import Game
from tests.gameoracles import chain, drawn_games, large_tree, leaves_of, nodes_of, told_good, told_optimal, with_ends
from tests.helpers import Case, contexts


def told_unmet(game):
    """Return the pairs of node number and first context in which no option is good."""
    found = []
    for number, (_, part) in enumerate(nodes_of(game.tree)):
        bad = [context for context in contexts(len(part) - 3, game.outcomes)
               if not told_good(part[2], context, game.outcomes)]
        if bad:
            found.append((number, bad[0]))
    return found


def told_barring(game):
    unmet = told_unmet(game)
    if not unmet:
        return None
    number, context = unmet[0]
    way = nodes_of(game.tree)[number][0]
    return tuple(context[at[len(way)]] if at[:len(way)] == way else part[1] for at, part in leaves_of(game.tree))


class TestBarring(Case):
    def test_drawn_games(self):
        numbers = [0, 0, 0]
        for game in drawn_games(50, 150):
            unmet = told_unmet(game)
            numbers[min(2, len(unmet))] += 1
            self.assertEqual(self.asked(unmet_nodes, game), tuple(number for number, _ in unmet))
            ends = self.asked(barring_ends, game)
            self.assertEqual(ends, told_barring(game))
            if ends is not None:
                self.assertEqual(told_optimal(with_ends(game.tree, ends), game.outcomes), ())
                self.assertEqual(sum(count_plans(game.with_ends(ends))), 0)
        self.assertGreater(min(numbers), 8)

    def test_met_aims_always_have_an_optimal_plan(self):
        met = [game for game in drawn_games(51, 150) if not told_unmet(game) and len(game.ends) <= 5][:30]
        self.assertGreater(len(met), 20)
        for game in met:
            for ends in itertools.product(range(game.outcomes), repeat=len(game.ends)):
                self.assertGreater(sum(count_plans(game.with_ends(ends))), 0)

    def test_no_nodes(self):
        self.assertEqual(unmet_nodes(Game(3, ("end", 2))), ())
        self.assertIsNone(barring_ends(Game(3, ("end", 2))))

    def test_first_of_several_nodes(self):
        fixed, among = ("node", 0, ("fixed",), ("end", 0), ("end", 1)), ("node", 0, ("among", ()), ("end", 1))
        game = Game(2, ("node", 0, ("any",), ("end", 1), fixed, among))
        self.assertEqual(unmet_nodes(game), (1, 2))
        self.assertEqual(barring_ends(game), (1, 1, 0, 1))
        game = Game(2, ("node", 0, ("any",), ("end", 1), among, fixed))
        self.assertEqual(barring_ends(game), (1, 0, 0, 1))

    def test_all_leaves_behind_an_option(self):
        behind = ("node", 0, ("any",), ("end", 0), ("node", 0, ("fixed",), ("end", 0), ("end", 0)), ("end", 0))
        game = Game(3, ("node", 0, ("any",), ("end", 2), ("node", 0, ("fixed",), behind, ("end", 1), behind)))
        self.assertEqual(unmet_nodes(game), (1, 3, 5))
        self.assertEqual(barring_ends(game), (2, 1, 1, 1, 1, 0, 0, 0, 0, 0))

    def test_large_games(self):
        for term, unmet in [(("any",), ()), (("most",), ()), (("only", ()), tuple(range(30)))]:
            game = Game(2, large_tree(lambda options: term, lambda number: 1))
            self.assertEqual(self.asked(unmet_nodes, game), unmet)
            self.assertEqual(self.asked(barring_ends, game), (0,) * 60 if unmet else None)
        game = Game(2, large_tree(lambda options: ("any",) if options == 3 else ("fixed",), lambda number: 1))
        self.assertEqual(len(unmet_nodes(game)), 1)
        self.assertEqual(sum(count_plans(game.with_ends(barring_ends(game)))), 0)
        game = Game(2, chain(("fixed",)))
        self.assertEqual((unmet_nodes(game), barring_ends(game)), (tuple(range(12)), (1,) * 12 + (0,)))
