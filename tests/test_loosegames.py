"""Points 103 to 105: loose games, ways that come round, and the lengths of ways."""

import time

from choosersrow.errors import EndlessGame, InvalidAim, InvalidGame, InvalidTerm, InvalidText, OutOfRange, TooLarge
from choosersrow.loosegames import LooseGame, round_way, way_lengths
from tests.helpers import SMALL_SIZES, Case
from tests.looseoracles import ANY, drawn_loose, end_ways, ladder, loose_text, rounds, told_reached, told_round, visits

END = ("end", 0)
STANDS = (("stand", 0, ANY, 1, 2), ("end", 1), ("stand", 3, ANY, 1, 0, 2))


class TestLooseGames(Case):
    def test_attributes(self):
        loose = LooseGame(2, STANDS)
        self.assertEqual((loose.outcomes, loose.stands, loose.reached), (2, STANDS, (0, 1, 2)))
        self.assertEqual(LooseGame.MOST_STANDS, 30)

    def test_reached(self):
        for stands, reached in [((END,), (0,)), ((END, END, ("stand", 0, ANY, 0)), (0,)),
                                ((("stand", 0, ANY, 3), END, END, ("stand", 0, ANY, 3, 1)), (0, 1, 3)),
                                ((("stand", 0, ANY, 2), ("stand", 0, ANY, 0), END), (0, 2)),
                                ((("stand", 0, ANY, 0), END), (0,))]:
            self.assertEqual(LooseGame(2, stands).reached, reached)
        for loose in drawn_loose(60, 80, 9, False) + drawn_loose(61, 80, 9):
            self.assertEqual(loose.reached, told_reached(loose.stands))

    def test_stands_that_are_right(self):
        for options, outcomes in SMALL_SIZES:
            self.assertEqual(LooseGame(outcomes, (("stand", 7, ANY) + (0,) * options,)).reached, (0,))
        for outcome in range(4):
            self.assertEqual(LooseGame(4, (("end", outcome),)).reached, (0,))


class TestWrongLooseGames(Case):
    def wrong(self, stands, path, outcomes=2, cause=None):
        error = self.refused(InvalidGame, LooseGame, outcomes, stands)
        self.assertEqual(error.path, path, stands)
        if cause is None:
            self.assertIsNone(error.__cause__)
        else:
            self.assertIs(type(error.__cause__), InvalidAim)
            self.assertEqual(error.__cause__.path, cause)

    def test_no_stands(self):
        for stands in [(), 0, "end", "loose", [END], None, [], 7]:
            self.wrong(stands, ())
        for part in [(), 0, "end", None, ["end", 0], ("node", 0, ANY, 0), ("End", 0), (0, 0), (("end",), 0), ("end",),
                     ("end", 0, 0), ("end", 0, ANY, 0), ("stand",), ("stand", 0), ("stand", 0, ANY), ("stands", 0, ANY, 0)]:
            self.wrong((part,), (0,))
            self.wrong((END, part, 7), (1,))
            self.wrong((("stand", 0, ANY, 2), END, part), (2,))
        # A game's term is a tuple, so its items are taken for stands.
        self.wrong(("end", 0), (0,))

    def test_outcomes_of_end_stands(self):
        for outcome in [2, -1, 99, "a", (), None, True]:
            self.wrong((("end", outcome),), (0, 1))
            self.wrong((END, ("end", outcome), 7), (1, 1))
        self.wrong((("end", 3),), (0, 1), 3)

    def test_players(self):
        for player in [8, -1, 99, "a", (), None, False]:
            self.wrong((("stand", player, ANY, 0),), (0, 1))
            self.wrong((END, ("stand", player, ("worst",), 99)), (1, 1))

    def test_sizes_that_are_not_small(self):
        for options, outcomes in [(9, 1), (9, 2), (6, 3), (5, 4), (20, 1)]:
            self.wrong((("stand", 9, ("worst",)) + (0,) * options,), (0,), outcomes)
            self.wrong((END, ("stand", 0, ANY) + (99,) * options), (1,), outcomes)

    def test_aims(self):
        for term, cause in [(("worst",), ()), (0, ()), ((), ()), (("best", (0, 1, 2)), (1,)), (("best", (0, 10)), (1, 1)),
                            (("like", 2), (1,)), (("not", ("only", (0, 2))), (1, 1, 1)),
                            (("table", ((), (), (1, 0), 0)), (1, 2, 1))]:
            self.wrong((("stand", 0, term, 0, 0),), (0, 2) + cause, 2, cause)
            self.wrong((END, ("stand", 0, term, 0, 99), 7), (1, 2) + cause, 2, cause)

    def test_targets(self):
        for target in [2, -1, 99, "a", (), (0,), None, True]:
            self.wrong((("stand", 0, ANY, target), END), (0, 3))
            self.wrong((END, ("stand", 0, ANY, 1, 0, target, 77)), (1, 5))
        # The number of stands counts, also if some of them are wrong or there are too many.
        self.wrong((("stand", 0, ANY, 1), 7), (1,))
        self.wrong((("stand", 0, ANY, 31),) + (END,) * 30, (0, 3))

    def test_several_wrong_parts(self):
        self.wrong((("stand", 8, ("worst",), 9), 7), (0, 1))
        self.wrong((("stand", 0, ("worst",), 9), 7), (0, 2), 2, ())
        self.wrong((("stand", 0, ANY, 9, -1), 7), (0, 3))
        self.wrong((("stand", 0, ANY, 0, -1), ("end", 9)), (0, 4))
        self.wrong((7, ("stand", 0, ANY, 9)), (0,))
        self.wrong((END,) * 35 + (7,), (35,))

    def test_numbers_of_outcomes(self):
        for outcomes in (0, 5, -1, 10 ** 20):
            for stands in [(END,), STANDS, (), 7, (7,), (END,) * 31]:
                self.refused(OutOfRange, LooseGame, outcomes, stands)

    def test_numbers_of_stands(self):
        self.assertEqual(len(LooseGame(2, (END,) * 30).stands), 30)
        self.assertEqual(LooseGame(2, ladder(29)).reached, tuple(range(30)))
        for many in (31, 32, 60):
            self.refused(TooLarge, LooseGame, 2, (END,) * many)
            self.refused(TooLarge, LooseGame, 2, ladder(many - 1))


class TestTexts(Case):
    def test_text(self):
        text = "(loose 2 ((stand 0 (any) 1 2) (end 1) (stand 3 (any) 1 0 2)))"
        self.assertEqual(LooseGame.read(text).stands, STANDS)
        self.assertEqual(LooseGame(2, STANDS).text(), text)

    def test_read_back(self):
        for loose in drawn_loose(62, 60, 9, False):
            again = LooseGame.read(loose.text())
            self.assertIs(type(again), LooseGame)
            self.assertEqual((again.outcomes, again.stands, again.reached), (loose.outcomes, loose.stands, loose.reached))

    def test_broken_texts(self):
        for text, position in [("", 0), ("(loose 2 ((end 0))", 18), ("(loose 2 ((end 0))))", 19), ("(loose 9  ())", 9),
                               ("(loose 02 ((end 0)))", 8), ("(loose 9 () ", 12)]:
            self.assertEqual(self.refused(InvalidText, LooseGame.read, text).position, position, text)

    def test_other_terms(self):
        for text in ["loose", "2", "()", "(loose)", "(loose 2)", "(loose 2 ((end 0)) 0)", "(game 2 (end 0))",
                     "(looses 2 ((end 0)))", "(2 2 ((end 0)))", "(loose a ((end 0)))", "(loose (2) ((end 9)))",
                     "(loose () 0)", "((loose) 2 ((end 0)))"]:
            self.assertEqual(self.refused(InvalidTerm, LooseGame.read, text).path, (), text)

    def test_what_creating_raises(self):
        for text in ["(loose 0 ((end 0)))", "(loose 5 7)", "(loose 0 ())"]:
            self.refused(OutOfRange, LooseGame.read, text)
        for text, path in [("(loose 2 7)", ()), ("(loose 2 a)", ()), ("(loose 2 ())", ()), ("(loose 2 (end 0))", (0,)),
                           ("(loose 2 ((end 2)))", (0, 1)), ("(loose 2 ((stand 0 (any) 1)))", (0, 3)),
                           ("(loose 2 ((stand 0 (like 1) 0)))", (0, 2, 1))]:
            self.assertEqual(self.refused(InvalidGame, LooseGame.read, text).path, path, text)
        self.refused(TooLarge, LooseGame.read, "(loose 2 (" + " ".join(["(end 0)"] * 31) + "))")


class TestRounds(Case):
    def test_by_hand(self):
        for body, way in [("(stand 0 (any) 1 2) (end 1) (stand 3 (any) 1 0 2)", (1, 1)), ("(end 0)", None),
                          ("(stand 0 (any) 0)", (0,)), ("(stand 0 (any) 1 0) (end 0)", (1,)),
                          ("(stand 0 (any) 1) (stand 0 (any) 2) (stand 0 (any) 1)", (0, 0, 0)),
                          ("(stand 0 (any) 1 1) (end 0)", None), ("(stand 0 (any) 2) (stand 0 (any) 1) (end 0)", None),
                          ("(stand 0 (any) 1 2) (stand 0 (any) 2 3) (stand 0 (any) 3 0) (end 0)", (0, 0, 1)),
                          ("(stand 0 (any) 3 2) (stand 0 (any) 2 3) (stand 0 (any) 3 1) (end 0)", (1, 1, 0))]:
            self.assertEqual(self.asked(round_way, loose_text(body)), way)

    def test_drawn_loose_games(self):
        for loose in drawn_loose(63, 200, 7, False) + drawn_loose(64, 60, 7):
            way = round_way(loose)
            self.assertEqual(way, told_round(loose.stands))
            if way is not None:
                visited = visits(loose.stands, way)
                self.assertIn(visited[-1], visited[:-1])
                self.assertEqual(len(set(visited[:-1])), len(way))
                self.assertEqual(min(rounds(loose.stands)), way)

    def test_loose_games_that_are_not_endless(self):
        for loose in drawn_loose(65, 60, 9):
            self.assertIsNone(self.asked(round_way, loose))

    def test_very_many_ways(self):
        begin = time.perf_counter()
        self.assertIsNone(round_way(LooseGame(2, ladder(29, 8))))
        # Only the last option of the last stand leads back.
        last = (("stand", 0, ANY, 29, 29, 12), END)
        self.assertEqual(round_way(LooseGame(2, ladder(28, 8, last))), (0,) * 28 + (2,))
        last = (("stand", 0, ANY, 29, 29, 28), END)
        self.assertEqual(round_way(LooseGame(2, ladder(28, 8, last))), (0,) * 28 + (2,))
        # The first options lead to a ladder without a round, and the last one of stand 0 leads to a round.
        stands = (("stand", 0, ANY, 1, 1, 29),) + ladder(30, 8)[1:28] + (END, ("stand", 0, ANY, 1, 0))
        self.assertEqual(round_way(LooseGame(2, stands)), (2, 1))
        self.assertLess(time.perf_counter() - begin, 5)


class TestLengths(Case):
    def test_drawn_loose_games(self):
        for loose in drawn_loose(66, 150, 8):
            lengths = [len(way) for way, _ in end_ways(loose.stands)]
            self.assertEqual(self.asked(way_lengths, loose), (min(lengths), max(lengths)))

    def test_by_hand(self):
        for body, lengths in [("(end 0)", (0, 0)), ("(stand 0 (any) 1) (end 0)", (1, 1)),
                              ("(stand 0 (any) 1 2) (stand 0 (any) 2 2) (end 0)", (1, 2)),
                              ("(stand 0 (any) 1 1) (stand 0 (any) 2 3) (stand 0 (any) 3) (end 0)", (2, 3)),
                              ("(end 0) (stand 0 (any) 1)", (0, 0)), ("(end 1) (stand 0 (any) 0)", (0, 0))]:
            self.assertEqual(self.asked(way_lengths, loose_text(body)), lengths)

    def test_very_many_ways(self):
        self.assertEqual(way_lengths(LooseGame(2, ladder(29, 8))), (29, 29))
        stands = tuple(("stand", 0, ANY, 29) + (number + 1,) * 7 for number in range(29)) + (END,)
        self.assertEqual(way_lengths(LooseGame(2, stands)), (1, 29))

    def test_endless_games(self):
        for loose in drawn_loose(67, 120, 7, False):
            way = told_round(loose.stands)
            if way is not None:
                self.assertEqual(self.refused(EndlessGame, way_lengths, loose).way, way)

    def test_rounds_that_are_not_reached(self):
        self.assertEqual(way_lengths(loose_text("(stand 0 (any) 1) (end 0) (stand 0 (any) 2)")), (1, 1))
