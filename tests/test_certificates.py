"""Points 75 to 77: which leaves of a duel decide it."""

import itertools
import random

from choosersrow.certificates import certified_outcome, least_certificate, pivot_leaves
from choosersrow.duels import duel_winner
from choosersrow.errors import OutOfRange
from choosersrow.games import Game
from tests.gameoracles import chain, ends_of, with_ends
from tests.helpers import Case
from tests.test_duels import DUEL, HIGH, LOW, drawn_duels, large_duel, told_winner


def subsets(many):
    """Return all ascending tuples of numbers below many, the shortest first and then in ascending order."""
    return [leaves for length in range(many + 1) for leaves in itertools.combinations(range(many), length)]


def all_winners(tree):
    """Return a dict of the winners under all ends."""
    many = len(ends_of(tree))
    return {ends: told_winner(with_ends(tree, ends)) for ends in itertools.product((0, 1), repeat=many)}


def told_certified(tree, winners, leaves):
    own = ends_of(tree)
    found = {winner for ends, winner in winners.items() if all(ends[leaf] == own[leaf] for leaf in leaves)}
    return found.pop() if len(found) == 1 else None


class TestCertified(Case):
    def test_drawn_duels(self):
        told_some = told_none = 0
        for game in drawn_duels(90, 60, 7):
            winners = all_winners(game.tree)
            for leaves in subsets(len(game.ends)):
                told = told_certified(game.tree, winners, leaves)
                self.assertEqual(certified_outcome(game, leaves), told)
                told_some, told_none = told_some + (told is not None), told_none + (told is None)
        self.assertGreater(min(told_some, told_none), 100)

    def test_all_leaves_and_none(self):
        for game in drawn_duels(91, 40) + [large_duel(), Game(2, chain(LOW))]:
            every = tuple(range(len(game.ends)))
            self.assertEqual(self.asked(certified_outcome, game, every), duel_winner(game))
            self.assertIsNone(self.asked(certified_outcome, game, ()))

    def test_no_nodes(self):
        for outcome in (0, 1):
            game = Game(2, ("end", outcome))
            self.assertIsNone(certified_outcome(game, ()))
            self.assertEqual(certified_outcome(game, (0,)), outcome)
            self.refused(OutOfRange, certified_outcome, game, (1,))

    def test_wrong_leaves(self):
        for leaves in [(-1,), (3,), (0, 3), (1, 0), (2, 1), (0, 0), (2, 2), (0, 2, 1), (0, 1, 2, 3), (0, 1, 2, 2),
                       (10 ** 20,), (-1, 0), (0, 1, 1)]:
            self.refused(OutOfRange, certified_outcome, DUEL, leaves)
        game = large_duel()
        for leaves in [(60,), (5, 4), (0, 60), (59, 59)]:
            self.refused(OutOfRange, certified_outcome, game, leaves)

    def test_leaf_with_the_other_outcome(self):
        # Leaf 0 has outcome 0 and does not help outcome 1, which the other two certify.
        for leaves, told in [((), None), ((0,), None), ((1,), None), ((2,), None), ((0, 1), None), ((0, 2), None),
                             ((1, 2), 1), ((0, 1, 2), 1)]:
            self.assertEqual(certified_outcome(DUEL, leaves), told)


class TestLeastCertificate(Case):
    def test_drawn_duels(self):
        several = 0
        for game in drawn_duels(92, 80, 8):
            winners = all_winners(game.tree)
            certificates = [leaves for leaves in subsets(len(game.ends))
                            if told_certified(game.tree, winners, leaves) is not None]
            self.assertEqual(self.asked(least_certificate, game), certificates[0])
            several += len([leaves for leaves in certificates if len(leaves) == len(certificates[0])]) > 1
        self.assertGreater(several, 10)

    def test_no_nodes(self):
        for outcome in (0, 1):
            self.assertEqual(self.asked(least_certificate, Game(2, ("end", outcome))), (0,))

    def test_first_of_several(self):
        two = ("node", 0, LOW, ("end", 1), ("end", 1))
        one = ("node", 0, LOW, ("end", 1))
        for trees, told in [((two, two), (0, 1)), ((two, one), (2,)), ((one, two, one), (0,)),
                            ((("end", 0), two, two), (1, 2)), ((two, ("end", 1), one), (2,))]:
            self.assertEqual(least_certificate(Game(2, ("node", 0, HIGH, *trees))), told)

    def test_large_duels(self):
        for outcomes in [(0,), (1,), (0, 1, 1), (1, 0), (1, 1, 1, 0)]:
            game = large_duel(outcomes)
            certificate = self.asked(least_certificate, game)
            self.assertEqual(certified_outcome(game, certificate), duel_winner(game))
            for leaf in certificate:
                rest = tuple(other for other in certificate if other != leaf)
                self.assertIsNone(certified_outcome(game, rest))

    def test_60_leaves(self):
        # Every node seeks 0: outcome 1 needs all leaves, and outcome 0 one leaf.
        eight = ("node", 0, LOW) + (("end", 1),) * 8
        four = ("node", 0, LOW) + (("end", 1),) * 4
        game = Game(2, ("node", 0, LOW) + (eight,) * 7 + (four,))
        self.assertEqual(least_certificate(game), tuple(range(60)))
        self.assertEqual(pivot_leaves(game), tuple(range(60)))
        ends = (1,) * 41 + (0,) + (1,) * 10 + (0,) * 8
        self.assertEqual(least_certificate(game.with_ends(ends)), (41,))
        self.assertEqual(pivot_leaves(game.with_ends(ends)), ())
        self.assertEqual(pivot_leaves(game.with_ends((1,) * 41 + (0,) + (1,) * 18)), (41,))


class TestPivots(Case):
    def test_drawn_duels(self):
        some = none = 0
        for game in drawn_duels(93, 120):
            told = []
            for leaf in range(len(game.ends)):
                ends = list(game.ends)
                ends[leaf] = 1 - ends[leaf]
                if told_winner(with_ends(game.tree, ends)) != told_winner(game.tree):
                    told.append(leaf)
            self.assertEqual(self.asked(pivot_leaves, game), tuple(told))
            some, none = some + bool(told), none + (not told)
        self.assertGreater(min(some, none), 10)

    def test_no_nodes(self):
        for outcome in (0, 1):
            self.assertEqual(pivot_leaves(Game(2, ("end", outcome))), (0,))

    def test_large_duels(self):
        source = random.Random(94)
        for _ in range(4):
            game = large_duel().with_ends(tuple(source.randrange(2) for _ in range(60)))
            told = [leaf for leaf in range(60) if told_winner(with_ends(game.tree, [
                end ^ (other == leaf) for other, end in enumerate(game.ends)])) != told_winner(game.tree)]
            self.assertEqual(pivot_leaves(game), tuple(told))
            # A pivot leaf is in every certificate.
            for leaf in told:
                rest = tuple(other for other in range(60) if other != leaf)
                self.assertIsNone(certified_outcome(game, rest))
                self.assertIn(leaf, least_certificate(game))
