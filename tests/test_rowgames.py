"""Points 95 to 98: games of queries, and rows to which choosers without end come."""

import random

from choosersrow.aims import Aim
from choosersrow.choosers import Chooser
from choosersrow.errors import InvalidAim, InvalidContext, InvalidGame, OutOfRange, TooLarge
from choosersrow.games import Game
from choosersrow.queries import Query
from choosersrow.rowgames import best_row, choose_row, outcome_by, row_by, row_game
from choosersrow.rows import Row
from choosersrow.settling import query_reach, settle_query
from tests.helpers import Case
from tests.queryoracles import (all_starts, drawn_queries, full_term, named, query_form, row_form, row_with, told,
                                told_reach, width)

ZERO, ONE = ("tell", 0), ("tell", 1)
QUERY = Query(("look", 1, ZERO, ("look", 0, ONE, ZERO)), (2,), 2)


def told_tree(term, aims):
    """Return the tree for a settled term, by the words of point 95."""
    if term[0] == "tell":
        return ("end", term[1])
    return ("node", term[1] % 8, aims[term[1] % len(aims)]) + tuple(told_tree(below, aims) for below in term[2:])


def told_entry(query, choosers, reach, entries):
    """Return the context of the place behind the entries and the answer there, by the words of point 96."""
    place = len(entries)
    context = tuple(told_outcome(query, choosers, reach, entries + (option,))
                    for option in range(width(query.widths, place)))
    return context, choosers[place % len(choosers)](context)


def told_outcome(query, choosers, reach, entries):
    """Return the outcome to which the choosers come behind the entries."""
    if len(entries) >= reach:
        return told(query.term, entries)
    return told_outcome(query, choosers, reach, entries + (told_entry(query, choosers, reach, entries)[1],))


def told_start(query, choosers, length):
    reach = told_reach(query)
    entries = ()
    while len(entries) < length:
        entries = entries + (told_entry(query, choosers, reach, entries)[1],)
    return entries


def drawn_choosers(source):
    """Return functions that pick options by a rule which is drawn from the random source."""
    made = []
    for _ in range(source.randrange(1, 9)):
        weights = [source.randrange(10) for _ in range(5)]
        made.append(lambda context, weights=weights: sum(weight * entry for weight, entry in zip(weights, context + (1,)))
                    % len(context))
    return tuple(made)


def small_queries(seed, many):
    return [query for query in drawn_queries(seed, many, most=4) if len(all_starts(query)) <= 36]


class TestRowGames(Case):
    def test_drawn_queries(self):
        source = random.Random(40)
        for query in drawn_queries(41, 120):
            aims = tuple(source.choice([("any",), ("most",), ("like", 0), ("not", ("fewest",)), ("only", ())])
                         for _ in range(source.randrange(1, 9)))
            settled = settle_query(query).term
            try:
                game = Game(query.outcomes, told_tree(settled, aims))
            except TooLarge:
                self.refused(TooLarge, row_game, query, aims)
                continue
            made = row_game(query, aims)
            self.assertIs(type(made), Game)
            self.assertEqual((made.outcomes, made.tree), (game.outcomes, game.tree))

    def test_by_hand(self):
        query = Query(("look", 17, ("look", 2, ZERO, ONE), ("look", 8, ONE, ("tell", 2))), (2,), 3)
        game = row_game(query, (("any",), ("best", (0, 1, 2)), ("like", 1)))
        self.assertEqual(settle_query(query).term[:2], ("look", 2))
        self.assertEqual([(node.way, node.player, node.aim.term) for node in game],
                         [((), 2, ("like", 1)), ((0,), 0, ("like", 1)), ((0, 0), 1, ("like", 1)), ((0, 1), 1, ("like", 1)),
                          ((1,), 0, ("like", 1)), ((1, 1), 1, ("like", 1))])
        game = row_game(query, (("any",), ("most",)))
        self.assertEqual([node.aim.term for node in game],
                         [("any",), ("any",), ("most",), ("most",), ("any",), ("most",)])
        self.assertEqual(game.ends, (0, 1, 0, 2, 1, 1, 2))

    def test_aims_of_places(self):
        # Place 9 has the aim with the index 1, and place 99 the one with the index 3.
        query = Query(("look", 9, ZERO, ("look", 99, ZERO, ONE)), (2,), 2)
        game = row_game(query, (("any",), ("most",), ("fewest",), ("like", 0), ("like", 1), ("any",), ("any",), ("any",)))
        self.assertEqual([(node.player, node.aim.term) for node in game], [(1, ("most",)), (3, ("like", 0))])

    def test_settled_terms_that_are_a_tell(self):
        for term in (ONE, ("look", 4, ONE, ONE)):
            game = row_game(Query(term, (2,), 3), (("worst",), 7))
            self.assertEqual((game.outcomes, game.tree), (3, ("end", 1)))

    def test_no_aims(self):
        for query in (QUERY, Query(ONE, (2,), 2), Query(full_term(range(8)), (2,), 2)):
            self.refused(OutOfRange, row_game, query, ())

    def test_wrong_aims(self):
        for aims, path in [((("worst",),), (2,)), ((("any",), 7), (3, 2)), ((("best", (0, 1, 2)), ("any",)), (2, 1)),
                           ((("not", ("like", 2)),), (2, 1, 1))]:
            error = self.refused(InvalidGame, row_game, QUERY, aims)
            self.assertEqual(error.path, path)
            self.assertIs(type(error.__cause__), InvalidAim)
        # The aim of a place that the settled term does not look at is not looked at.
        self.assertEqual(len(row_game(QUERY, (("any",), ("any",), ("worst",))).nodes), 2)

    def test_games_that_are_too_large(self):
        query = Query(full_term(range(5)), (2,), 2)
        self.refused(TooLarge, row_game, query, (("any",),))
        self.assertEqual(len(row_game(Query(full_term(range(4)), (2,), 2), (("any",),)).nodes), 15)
        self.refused(TooLarge, row_game, Query(full_term(range(3), 4, lambda row: sum(row) % 4), (4,), 4), (("any",),))
        error = self.refused(InvalidGame, row_game, query, (("any",), ("worst",)))
        self.assertEqual(error.path, (3, 2))


class TestChoosing(Case):
    def test_against_the_words(self):
        source = random.Random(42)
        for query in small_queries(43, 120):
            for _ in range(3):
                choosers = drawn_choosers(source)
                start = told_start(query, choosers, 12)
                for length in (0, 1, 2, 5, 12):
                    self.assertEqual(choose_row(query, choosers, length), start[:length])
                row = row_by(query, choosers)
                self.assertEqual(row.start(12), start)
                self.assertEqual(row.start(100), choose_row(query, choosers, 100))
                self.assertEqual(row_form(row.least()), row_form(row))
                self.assertEqual(outcome_by(query, choosers), told(query.term, start))
                self.assertEqual(outcome_by(query, choosers), query(row))

    def test_whole_rows(self):
        source = random.Random(44)
        for query in small_queries(45, 30):
            choosers = drawn_choosers(source)
            row = row_by(query, choosers)
            self.assertIs(type(row), Row)
            context = (outcome_by(query, choosers),)
            for place in list(range(query_reach(query), 130)) + [840 * 10 ** 30 + place for place in range(50)]:
                wide = width(query.widths, place)
                self.assertEqual(row[place], choosers[place % len(choosers)](context * wide))

    def test_by_hand(self):
        choosers = (lambda context: 0, lambda context: context[1])
        self.assertEqual(self.asked(choose_row, QUERY, choosers, 5), (0, 1, 0, 1, 0))
        self.assertEqual(row_form(row_by(QUERY, choosers)), ((), (0, 1)))
        self.assertEqual(self.asked(outcome_by, QUERY, choosers), 1)
        last = (lambda context: len(context) - 1,)
        self.assertEqual(row_form(row_by(Query(ONE, (1, 2, 4), 2), last)), ((), (0, 1, 3)))
        other = (lambda context: context[0] ^ 1,)
        self.assertEqual(row_form(row_by(Query(("look", 1, ONE, ZERO), (2,), 2), other)), ((), (0,)))
        self.assertEqual(row_form(row_by(Query(("look", 1, ZERO, ZERO), (2,), 2), other)), ((), (1,)))
        self.assertEqual(row_form(row_by(Query(("look", 1, ZERO, ONE), (2,), 2), (lambda context: max(context),))),
                         ((), (1,)))

    def test_contexts(self):
        seen = []

        def chooser(context):
            seen.append(context)
            return 0
        choose_row(Query(("look", 1, ZERO, ("tell", 2)), (1, 2, 3), 4), (chooser,), 3)
        self.assertEqual(set(seen), {(0,), (0, 2), (0, 0, 0)})

    def test_unlike_periods(self):
        widths = (1, 2, 3, 4, 1)
        choosers = tuple((lambda context, k=k: k % len(context)) for k in range(7))
        row = row_by(Query(("look", 2, ONE, ZERO, ONE), widths, 2), choosers)
        for place in range(200):
            self.assertEqual(row[place], place % 7 % width(widths, place))
        self.assertEqual((len(row.head), len(row.cycle)), (0, 35))

    def test_choosers(self):
        best, worst = Chooser.first_good(Aim(("best", (0, 1)), 2, 2)), Chooser.first_good(Aim(("best", (1, 0)), 2, 2))
        query = Query(full_term((0, 1, 2), 2, lambda row: int(row in ((0, 1, 1), (1, 0, 0), (1, 0, 1)))), (2,), 2)
        for choosers in [(best,), (worst,), (best, worst), (worst, best), (best, worst, lambda context: 1)]:
            self.assertEqual(choose_row(query, choosers, 5), told_start(query, choosers, 5))
            self.assertEqual(outcome_by(query, choosers), told(query.term, told_start(query, choosers, 3)))
        self.assertEqual(outcome_by(query, (best,)), 1)
        self.assertEqual(outcome_by(query, (worst,)), 0)
        self.refused(InvalidContext, choose_row, Query(ONE, (3,), 2), (best,), 1)

    def test_very_many_heads(self):
        query = Query(full_term((3, 17, 30, 44, 58, 71, 86, 99), 2, lambda row: int(sum(row) % 3 == 0)), (2,), 2)
        best, worst = Chooser.first_good(Aim(("best", (0, 1)), 2, 2)), Chooser.first_good(Aim(("best", (1, 0)), 2, 2))
        self.assertEqual(outcome_by(query, (best,)), 1)
        self.assertEqual(query(row_by(query, (best,))), 1)
        self.assertEqual(outcome_by(query, (best, worst)), query(row_by(query, (best, worst))))
        self.assertEqual(choose_row(query, (best,), 100), (0,) * 100)

    def test_lengths(self):
        choosers = (lambda context: 0,)
        self.assertEqual(choose_row(QUERY, choosers, 0), ())
        self.assertEqual(len(choose_row(QUERY, choosers, 100)), 100)
        for length in (-1, 101, 10 ** 20):
            self.refused(OutOfRange, choose_row, QUERY, choosers, length)

    def test_numbers_of_choosers(self):
        choosers = (lambda context: 0,)
        for many in (1, 8):
            self.assertEqual(choose_row(QUERY, choosers * many, 2), (0, 0))
            self.assertEqual(outcome_by(QUERY, choosers * many), 0)
            self.assertEqual(row_form(row_by(QUERY, choosers * many)), ((), (0,)))
        for many in (0, 9, 20):
            self.refused(OutOfRange, choose_row, QUERY, choosers * many, 2)
            self.refused(OutOfRange, choose_row, QUERY, choosers * many, 0)
            self.refused(OutOfRange, row_by, QUERY, choosers * many)
            self.refused(OutOfRange, outcome_by, QUERY, choosers * many)


class TestBestRow(Case):
    def test_drawn_queries(self):
        source = random.Random(46)
        for query in drawn_queries(47, 150):
            for _ in range(3):
                ranks = tuple(source.randrange(4) for _ in range(query.outcomes))
                greatest = max(ranks[told(query.term, start)] for start in all_starts(query))
                first = [start for start in all_starts(query) if ranks[told(query.term, start)] == greatest][0]
                row = best_row(query, ranks)
                self.assertIs(type(row), Row)
                self.assertEqual(row_form(row), row_with(first))

    def test_by_hand(self):
        query = Query(("look", 3, ZERO, ("look", 1, ONE, ("tell", 2))), (2,), 4)
        for ranks, form in [((0, 1, 2, 9), ((0, 1, 0, 1), (0,))), ((0, 2, 2, 9), ((0, 0, 0, 1), (0,))),
                            ((5, 5, 5, 0), ((), (0,))), ((1, 0, 0, 9), ((), (0,))), ((0, 9, 3, 0), ((0, 0, 0, 1), (0,)))]:
            self.assertEqual(row_form(best_row(query, ranks)), form)
        # No row gets outcome 1 in the end, whatever the term names.
        query = Query(("look", 0, ("look", 0, ZERO, ONE), ("tell", 2)), (2,), 3)
        self.assertEqual(row_form(best_row(query, (0, 9, 1))), ((1,), (0,)))
        self.assertEqual(named(query.term), {0})

    def test_ranks_of_a_wrong_form(self):
        for ranks in [(), (0,), (0, 1, 2), (0, 10), (-1, 0), (0, 10 ** 20), (0, 1, 1)]:
            self.refused(OutOfRange, best_row, QUERY, ranks)
            self.refused(OutOfRange, best_row, Query(ONE, (2,), 2), ranks)
        self.assertEqual(query_form(QUERY), (("look", 1, ZERO, ("look", 0, ONE, ZERO)), (2,), 2))
