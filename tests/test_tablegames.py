"""Points 113 to 115: table games, their plays, and rests."""

import itertools
import random

from choosersrow.aims import Aim
from choosersrow.errors import InvalidAim, InvalidGame, InvalidPlan, InvalidTerm, InvalidText, OutOfRange, TooLarge
from choosersrow.tablegames import TableGame, faced_by, leaving_players, outcome_of, rest_plays
from tests.helpers import Case
from tests.oracles import drawn_term, good_options

ANY = ("any",)
TABLE = ((0, 1, 2), (2, 1, 0))
AIMS = (("best", (0, 1, 2)), ("like", 2))


def made_table(sizes, entry_of, play=()):
    """Return the table of the sizes in which each play has the entry that the function tells."""
    if len(play) == len(sizes):
        return entry_of(play)
    return tuple(made_table(sizes, entry_of, play + (option,)) for option in range(sizes[len(play)]))


def entry(table, play):
    for option in play:
        table = table[option]
    return table


def told_context(table, sizes, play, player):
    return tuple(entry(table, play[:player] + (option,) + play[player + 1:]) for option in range(sizes[player]))


def told_leavers(game, play):
    found = []
    for player, aim in enumerate(game.aims):
        context = told_context(game.table, game.sizes, play, player)
        if play[player] not in good_options(aim.term, context, game.outcomes):
            found.append(player)
    return tuple(found)


def all_plays(sizes):
    return list(itertools.product(*[range(size) for size in sizes]))


def drawn_tablegames(seed, many, most=4):
    source = random.Random(seed)
    found = []
    while len(found) < many:
        outcomes = source.randrange(1, 5)
        sizes = tuple(source.randrange(1, most + 1) for _ in range(source.randrange(1, 5)))
        table = made_table(sizes, lambda play: source.randrange(outcomes))
        aims = tuple(source.choice([drawn_term(source, size, outcomes, 2),
                                    ("best", tuple(source.randrange(3) for _ in range(outcomes)))]) for size in sizes)
        found.append(TableGame(outcomes, table, aims))
    return found


def game_form(game):
    return (game.outcomes, game.table, tuple(aim.term for aim in game.aims), game.sizes)


class TestTableGames(Case):
    def test_attributes(self):
        game = TableGame(3, TABLE, AIMS)
        self.assertEqual((game.outcomes, game.table, game.sizes), (3, TABLE, (2, 3)))
        self.assertIs(type(game.aims), tuple)
        for aim, term, options in zip(game.aims, AIMS, (2, 3), strict=True):
            self.assertIs(type(aim), Aim)
            self.assertEqual((aim.term, aim.options, aim.outcomes), (term, options, 3))

    def test_class_values(self):
        self.assertEqual((TableGame.MOST_PLAYERS, TableGame.MOST_OPTIONS, TableGame.MOST_PLAYS), (4, 64, 256))

    def test_sizes(self):
        for sizes in [(1,), (64,), (1, 1, 1, 1), (4, 4, 4, 4), (64, 4), (4, 64), (2, 2, 64, 1), (16, 16), (1, 1, 1, 64)]:
            game = TableGame(2, made_table(sizes, lambda play: sum(play) % 2), (ANY,) * len(sizes))
            self.assertEqual(game.sizes, sizes)

    def test_drawn_games(self):
        for game in drawn_tablegames(90, 60):
            for play in all_plays(game.sizes):
                self.assertEqual(outcome_of(game, play), entry(game.table, play))


class TestWrongTableGames(Case):
    def wrong(self, table, aims, path, outcomes=2, cause=None):
        error = self.refused(InvalidGame, TableGame, outcomes, table, aims)
        self.assertEqual(error.path, path, table)
        if cause is None:
            self.assertIsNone(error.__cause__)
        else:
            self.assertIs(type(error.__cause__), InvalidAim)
            self.assertEqual(error.__cause__.path, cause)

    def test_numbers_of_outcomes(self):
        for outcomes in (0, 5, -1, 10 ** 20):
            for table, aims in [((0,), (ANY,)), ((), ()), (7, 7), ((0,) * 65, (ANY,)), ((9,), (("worst",),))]:
                self.refused(OutOfRange, TableGame, outcomes, table, aims)

    def test_aims_of_a_wrong_form(self):
        for aims in [(), (ANY,) * 5, (ANY,) * 9, 0, "any", None, [ANY], ()]:
            for table in [(0,), (), 7, ((0, 9), 7), ((0,) * 65,)]:
                self.wrong(table, aims, (1,))
        for many in (1, 2, 3, 4):
            self.assertEqual(len(TableGame(2, made_table((2,) * many, lambda play: 0), (ANY,) * many).aims), many)

    def test_parts_that_are_no_tuples(self):
        for part in [0, "a", None, [0, 1], True]:
            self.wrong(part, (ANY,), (0,))
            self.wrong(part, (ANY,) * 3, (0,))
            self.wrong((part, (0, 0)), (ANY,) * 2, (0, 0))
            self.wrong(((0, 0), part), (ANY,) * 2, (0, 1))
            self.wrong((((0,), (0,)), ((0,), part)), (ANY,) * 3, (0, 1, 1))

    def test_empty_parts(self):
        self.wrong((), (ANY,), (0,))
        self.wrong((), (ANY,) * 4, (0,))
        self.wrong(((),), (ANY,) * 2, (0, 0))
        self.wrong(((0,), ()), (ANY,) * 2, (0, 1))
        self.wrong((((), (0,)), 7), (ANY,) * 3, (0, 0, 0))

    def test_unlike_lengths(self):
        self.wrong(((0, 0), (0,)), (ANY,) * 2, (0, 1))
        self.wrong(((0, 0), (0, 0, 0)), (ANY,) * 2, (0, 1))
        self.wrong((((0,), (0,)), ((0,),)), (ANY,) * 3, (0, 1))
        self.wrong((((0,), (0,)), ((0,), (0, 0))), (ANY,) * 3, (0, 1, 1))
        self.wrong((((0,), (0, 0)), ((0,), (0,))), (ANY,) * 3, (0, 0, 1))
        # The lengths of different levels may differ.
        self.assertEqual(TableGame(2, (((0, 0, 0),), ((0, 0, 0),)), (ANY,) * 3).sizes, (2, 1, 3))

    def test_entries_that_are_no_outcomes(self):
        for part in [2, -1, 10 ** 20, "a", (), (0,), None, True]:
            self.wrong((part,), (ANY,), (0, 0))
            self.wrong(((0, 1), (1, part)), (ANY,) * 2, (0, 1, 1))
            self.wrong(((((0,),),), (((part,),),)), (ANY,) * 4, (0, 1, 0, 0, 0))
        self.wrong((0, 3), (ANY,), (0, 1), 3)

    def test_first_in_reading_order(self):
        self.wrong(((0, 9), 7), (ANY,) * 2, (0, 0, 1))
        self.wrong((7, (0, 9)), (ANY,) * 2, (0, 0))
        self.wrong(((0, 0), (0,), (9, 0)), (ANY,) * 2, (0, 1))
        self.wrong(((0, 0), (9, 0), (0,)), (ANY,) * 2, (0, 1, 0))
        self.wrong((((0,), 7), ()), (ANY,) * 3, (0, 0, 1))
        # What stands in a tuple of another length is not looked at.
        self.wrong(((0, 0), (9, 9, 9)), (ANY,) * 2, (0, 1))

    def test_more_players_than_levels(self):
        self.wrong((0, 1), (ANY,) * 2, (0, 0))
        self.wrong(((0, 1),), (ANY,), (0, 0))
        self.wrong(((0, 1),), (ANY,) * 3, (0, 0, 0))

    def test_the_table_comes_before_its_size(self):
        self.wrong((0,) * 70 + (9,), (ANY,), (0, 70))
        self.wrong(((0,) * 64,) * 10 + ((0,) * 63,), (ANY,) * 2, (0, 10))

    def test_too_large(self):
        for sizes in [(65,), (1, 65), (65, 1, 1), (257,), (16, 17), (64, 5), (2, 2, 65), (4, 4, 4, 5), (2, 3, 43)]:
            for aims in [(ANY,) * len(sizes), (("worst",),) * len(sizes), (7,) * len(sizes)]:
                self.refused(TooLarge, TableGame, 2, made_table(sizes, lambda play: 0), aims)
        self.assertEqual(TableGame(2, (0,) * 64, (ANY,)).sizes, (64,))
        self.assertEqual(TableGame(2, made_table((2, 2, 64), lambda play: 0), (ANY,) * 3).sizes, (2, 2, 64))

    def test_wrong_aims(self):
        for term, cause in [(("worst",), ()), (0, ()), ((), ()), (("best", (0, 1, 2)), (1,)), (("best", (0, 10)), (1, 1)),
                            (("like", 3), (1,)), (("not", ("only", (0, 3))), (1, 1, 1)), (("end", 0), ())]:
            self.wrong((0, 1, 0), (term,), (1, 0) + cause, 2, cause)
            self.wrong(((0,) * 3,) * 3, (ANY, term), (1, 1) + cause, 2, cause)
            self.wrong(((0,) * 3,) * 3, (term, 7), (1, 0) + cause, 2, cause)
            self.wrong(((((0,) * 3,),),), (ANY, ANY, ANY, term), (1, 3) + cause, 2, cause)
        # An aim is one for the options of its own player.
        self.wrong(((0,) * 3,) * 2, (("like", 2), ("like", 2)), (1, 0, 1), 2, (1,))
        self.wrong(((0,) * 2,) * 3, (("like", 2), ("like", 2)), (1, 1, 1), 2, (1,))
        self.wrong((0,) * 9, (("table", ((),) * 512),), (1, 0), 2, ())
        self.wrong((9,), (("worst",),), (0, 0))


class TestTexts(Case):
    def test_text(self):
        text = "(table 3 ((0 1 2) (2 1 0)) ((best (0 1 2)) (like 2)))"
        self.assertEqual(TableGame(3, TABLE, AIMS).text(), text)
        self.assertEqual(game_form(TableGame.read(text)), (3, TABLE, AIMS, (2, 3)))

    def test_read_back(self):
        for game in drawn_tablegames(91, 50):
            again = TableGame.read(game.text())
            self.assertIs(type(again), TableGame)
            self.assertEqual(game_form(again), game_form(game))
            self.assertEqual(again.text(), game.text())

    def test_broken_texts(self):
        for text, position in [("", 0), ("(table 2 (0) ((any))", 20), ("(table 2 (0) ((any))))", 21), ("(table 9  7 7)", 9),
                               ("(table 02 (0) ((any)))", 8), ("(table 9 7 7) ", 13)]:
            self.assertEqual(self.refused(InvalidText, TableGame.read, text).position, position, text)

    def test_other_terms(self):
        for text in ["table", "2", "()", "(table)", "(table 2 (0))", "(table 2 (0) ((any)) 0)", "(tables 2 (0) ((any)))",
                     "(loose 2 ((end 0)))", "(2 2 (0) ((any)))", "(table a (0) ((any)))", "(table (2) (0) ((any)))",
                     "(table () 7 7)", "((table) 2 (0) ((any)))"]:
            self.assertEqual(self.refused(InvalidTerm, TableGame.read, text).path, (), text)

    def test_what_creating_raises(self):
        for text in ["(table 0 (0) ((any)))", "(table 5 7 7)"]:
            self.refused(OutOfRange, TableGame.read, text)
        for text, path in [("(table 2 7 7)", (1,)), ("(table 2 (9) any)", (1,)), ("(table 2 (9) ())", (1,)),
                           ("(table 2 7 ((any)))", (0,)), ("(table 2 a ((worst)))", (0,)), ("(table 2 (2) ((any)))", (0, 0)),
                           ("(table 2 (0) (any))", (1, 0)), ("(table 2 (0) ((like 1)))", (1, 0, 1))]:
            self.assertEqual(self.refused(InvalidGame, TableGame.read, text).path, path, text)
        self.refused(TooLarge, TableGame.read, "(table 2 (" + " ".join(["0"] * 65) + ") ((worst)))")


class TestPlays(Case):
    def test_faced_by(self):
        for game in drawn_tablegames(92, 60):
            for play in all_plays(game.sizes):
                for player in range(len(game.sizes)):
                    self.assertEqual(faced_by(game, play, player), told_context(game.table, game.sizes, play, player))

    def test_by_hand(self):
        game = TableGame(3, TABLE, AIMS)
        self.assertEqual(self.asked(outcome_of, game, (1, 0)), 2)
        self.assertEqual(self.asked(faced_by, game, (1, 0), 0), (0, 2))
        self.assertEqual(self.asked(faced_by, game, (1, 0), 1), (2, 1, 0))
        self.assertEqual(self.asked(leaving_players, game, (1, 0)), (1,))
        self.assertEqual(self.asked(leaving_players, game, (0, 0)), (0, 1))
        self.assertEqual(self.asked(leaving_players, game, (0, 2)), ())
        self.assertEqual(self.asked(rest_plays, game), ((0, 2),))

    def test_wrong_plays(self):
        game = TableGame(3, TABLE, AIMS)
        for play, index in [((), 0), ((0,), 1), ((0, 0, 0), 2), ((2, 0), 0), ((-1, 0), 0), ((0, 3), 1), ((0, -1), 1),
                            ((2, 9, 9), 0), ((0, 10 ** 20), 1), ((2,), 0), ((1, 2, 9, 9), 2)]:
            self.assertEqual(self.refused(InvalidPlan, outcome_of, game, play).index, index)
            self.assertEqual(self.refused(InvalidPlan, leaving_players, game, play).index, index)
            for player in (0, 1, 2, -1):
                self.assertEqual(self.refused(InvalidPlan, faced_by, game, play, player).index, index)

    def test_players_that_are_none(self):
        game = TableGame(3, TABLE, AIMS)
        for player in (-1, 2, 3, 10 ** 20):
            self.refused(OutOfRange, faced_by, game, (0, 0), player)

    def test_rests(self):
        found = 0
        for game in drawn_tablegames(93, 150):
            rests = []
            for play in all_plays(game.sizes):
                self.assertEqual(leaving_players(game, play), told_leavers(game, play))
                if not told_leavers(game, play):
                    rests.append(play)
            self.assertEqual(self.asked(rest_plays, game), tuple(rests))
            found += len(rests)
        self.assertGreater(found, 50)

    def test_games_without_rests(self):
        pennies = TableGame(2, ((0, 1), (1, 0)), (("best", (0, 1)), ("best", (1, 0))))
        self.assertEqual(rest_plays(pennies), ())
        for play in all_plays((2, 2)):
            self.assertEqual(len(leaving_players(pennies, play)), 1)
        self.assertEqual(rest_plays(TableGame(2, (0, 1), (("only", ()),))), ())

    def test_greatest_games(self):
        game = TableGame(2, made_table((4,) * 4, lambda play: sum(play) % 2), (ANY,) * 4)
        self.assertEqual(rest_plays(game), tuple(all_plays((4,) * 4)))
        game = TableGame(4, tuple(number % 4 for number in range(64)), (("best", (0, 1, 2, 3)),))
        self.assertEqual(rest_plays(game), tuple((number,) for number in range(3, 64, 4)))
