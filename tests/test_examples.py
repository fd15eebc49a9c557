"""The examples that the document shows under its headings, as they stand there."""

import doctest
import unittest

EXAMPLES = '''
>>> from choosersrow.terms import read_term, write_term
>>> read_term("(best (0 12) ())")
('best', (0, 12), ())
>>> write_term((("any",), 7))
'((any) 7)'

>>> from choosersrow.walks import choice_at, choice_index
>>> choice_at((2, 3), 4)
(1, 1)
>>> choice_index((2, 3), (1, 1))
4

>>> from choosersrow.aims import Aim
>>> Aim(("best", (0, 5, 5)), 4, 3).good((1, 0, 2, 0))
(0, 2)
>>> (~Aim(("most",), 3, 2)).good((1, 0, 1))
(1,)

>>> from choosersrow.choosers import Chooser
>>> Chooser.first_good(Aim(("best", (0, 1)), 2, 2)).row
(0, 1, 0, 0)

>>> from choosersrow.games import Game
>>> game = Game.read("(game 2 (node 0 (any) (end 1) (node 1 (most) (end 0) (end 1) (end 1))))")
>>> game.ends
(1, 0, 1, 1)
>>> [node.way for node in game]
[(), (1,)]
>>> game.nodes[0].children
(('leaf', 0), ('node', 1))
>>> game.plans
6

>>> from choosersrow.aimtables import aim_table, unmet_context
>>> aim_table(Aim(("best", (0, 1)), 2, 2))
((0, 1), (1,), (0,), (0, 1))
>>> unmet_context(Aim(("fixed",), 2, 2))
(1, 0)

>>> from choosersrow.orders import opposite_ranks, order_of
>>> opposite_ranks((5, 2, 5, 9))
(1, 2, 1, 0)
>>> order_of(Aim(("second", (4, 9)), 2, 2))
(1, 0)

>>> from choosersrow.choosing import meeting_choosers
>>> aim = Aim(("best", (0, 1)), 2, 2)
>>> [chooser.row for chooser in meeting_choosers(aim, start=2)]
[(1, 1, 0, 0), (1, 1, 0, 1)]

>>> from choosersrow.turns import faced_context, put_behind, split_option
>>> first = Chooser(2, 2, (0, 1, 0, 0))
>>> single = Chooser(1, 2, (0, 0))
>>> faced_context(first, (first, single), (0, 1, 0))
(1, 0)
>>> put_behind(first, (first, single))((0, 1, 0))
1
>>> [split_option((2, 1), option) for option in (0, 1, 2)]
[(0, 0), (0, 1), (1, 0)]

>>> from choosersrow.turnaims import aim_behind, choosers_to
>>> best = Aim(("best", (0, 1)), 2, 2)
>>> single = Aim(("any",), 1, 2)
>>> aim_behind(best, (best, single)).good((0, 1, 1))
(1, 2)
>>> choosers_to(best, (best, single), (1, 1, 1), 1)[1][0].row
(0, 1, 0, 1)

>>> from choosersrow.games import Game
>>> from choosersrow.plays import contexts_under, faulty_nodes, play_out
>>> game = Game.read("(game 2 (node 0 (best (0 1)) (node 1 (best (1 0)) (end 1) (end 0)) (end 1)))")
>>> play_out(game, (0, 0))
((0, 0), 1)
>>> contexts_under(game, (0, 0))
((1, 1), (1, 0))
>>> faulty_nodes(game, (0, 0))
(1,)

>>> from choosersrow.choosers import Chooser
>>> from choosersrow.games import Game
>>> from choosersrow.optimal import choosers_for, optimal_plans, plan_by
>>> game = Game.read("(game 2 (node 0 (best (0 1)) (node 1 (best (1 0)) (end 1) (end 0)) (end 1)))")
>>> plan_by(game, (Chooser.constant(2, 2, 0), lambda context: context[0]))
(0, 1)
>>> list(optimal_plans(game))
[(1, 1)]
>>> [chooser.row for chooser in choosers_for(game, (1, 1))]
[(0, 1, 0, 0), (0, 0, 1, 0)]

>>> from choosersrow.grafting import join_plans, level_game
>>> game = level_game(2, ((0, ("best", (0, 1)), 2), (1, ("any",), 2)), (0, 1, 1, 1))
>>> game.text()
'(game 2 (node 0 (best (0 1)) (node 1 (any) (end 0) (end 1)) (node 1 (any) (end 1) (end 1))))'
>>> leaf = level_game(2, (), (0,))
>>> node = level_game(2, ((0, ("any",), 2),), (0, 1))
>>> join_plans(game, (1, 0, 1), (leaf, node, leaf, node), ((), (0,), (), (1,)))
(1, 0, 0, 1, 1)

>>> from choosersrow.counting import count_from, count_plans, mended_plan, plan_at, plan_to
>>> from choosersrow.gamevalues import good_leaves, node_values
>>> from choosersrow.grafting import level_game
>>> game = level_game(2, ((0, ("best", (0, 1)), 2), (1, ("any",), 2)), (0, 1, 1, 1))
>>> node_values(game)
((1,), (0, 1), (1,))
>>> good_leaves(game)
(1, 2, 3)
>>> count_plans(game)
(0, 6)
>>> count_from(game, (1,))
(0, 4)
>>> plan_at(game, 2)
(1, 0, 0)
>>> plan_to(game, outcome=1)
(0, 1, 0)
>>> mended_plan(game, (0, 0, 1))
(0, 1, 1)

>>> from choosersrow.barring import barring_ends
>>> from choosersrow.games import Game
>>> barring_ends(Game(2, ("node", 0, ("fixed",), ("end", 0), ("end", 0))))
(1, 0)

>>> from choosersrow.composing import composed_aim, flatten_game, parting_ends
>>> from choosersrow.games import Game
>>> game = Game.read("(game 2 (node 5 (best (0 1)) (end 1) (node 1 (best (1 0)) (end 0) (end 1))))")
>>> composed_aim(game).good((0, 1, 1))
(1, 2)
>>> composed_aim(game).good((1, 0, 1))
(0,)
>>> parting_ends(game, Game.read("(game 2 (node 0 (best (0 1)) (end 0) (end 0) (end 0)))"))
(0, 0, 1)
>>> flatten_game(game).nodes[0].player
5

>>> from choosersrow.games import Game
>>> from choosersrow.shortening import node_orders, shorten_game
>>> game = Game.read("(game 2 (node 0 (best (0 1)) (end 0) (node 1 (best (2 5)) (end 1) (end 0)) (node 2 (any) (end 1))))")
>>> node_orders(game)
((0, 1), (0, 1), (0, 0))
>>> shorten_game(game).text()
'(game 2 (node 0 (best (0 1)) (end 0) (end 1) (end 0) (end 1)))'

>>> from choosersrow.duels import duel_winner, is_winning, node_sides, threshold_duel, winning_plan
>>> from choosersrow.games import Game
>>> game = Game.read("(game 2 (node 0 (best (0 1)) (end 0) (node 1 (best (1 0)) (end 1) (end 1))))")
>>> node_sides(game)
(1, 0)
>>> duel_winner(game)
1
>>> winning_plan(game)
(1, None)
>>> is_winning(game, (None, 0), outcome=1)
False
>>> other = Game.read("(game 3 (node 0 (best (0 1 2)) (end 1) (node 1 (best (9 4 3)) (end 2) (end 1))))")
>>> threshold_duel(other, (3, 4, 8), least=5).text()
'(game 2 (node 0 (best (0 1)) (end 0) (node 1 (best (1 0)) (end 1) (end 0))))'

>>> from choosersrow.certificates import certified_outcome, least_certificate, pivot_leaves
>>> from choosersrow.games import Game
>>> game = Game.read("(game 2 (node 0 (best (0 1)) (end 0) (node 1 (best (1 0)) (end 1) (end 1))))")
>>> certified_outcome(game, (0, 1))
>>> certified_outcome(game, (1, 2))
1
>>> least_certificate(game)
(1, 2)
>>> pivot_leaves(game)
(1, 2)

>>> from choosersrow.rows import Row
>>> row = Row((5,), (1, 2))
>>> row.start(6)
(5, 1, 2, 1, 2, 1)
>>> other = row.after(2).lead((1,))
>>> (other.head, other.cycle)
((), (1, 2))

>>> from choosersrow.queries import Query, query_tail
>>> query = Query(("look", 1, ("tell", 0), ("look", 0, ("tell", 1), ("tell", 0))), (2,), 2)
>>> query_tail(query, 0).term
('look', 0, ('tell', 0), ('tell', 1))

>>> from choosersrow.queries import Query
>>> from choosersrow.settling import settle_query
>>> query = Query(("look", 1, ("tell", 0), ("look", 0, ("tell", 1), ("tell", 0))), (2,), 2)
>>> settle_query(query).term
('look', 0, ('look', 1, ('tell', 0), ('tell', 1)), ('tell', 0))

>>> from choosersrow.tracing import trace_query
>>> trace_query(lambda row: row[row[0] + 1], (2,), 2).term
('look', 0, ('look', 1, ('tell', 0), ('tell', 1)), ('look', 2, ('tell', 0), ('tell', 1)))

>>> from choosersrow.queries import Query
>>> from choosersrow.rowgames import choose_row
>>> query = Query(("look", 1, ("tell", 0), ("look", 0, ("tell", 1), ("tell", 0))), (2,), 2)
>>> choose_row(query, (lambda context: 0, lambda context: context[1]), 5)
(0, 1, 0, 1, 0)

>>> from choosersrow.quantified import every_row, find_row
>>> every_row(lambda row: int(find_row(lambda other: int(other[0] == row[0]), (2,)) is not None), (2,))
True

>>> from choosersrow.loosegames import LooseGame, round_way
>>> round_way(LooseGame.read("(loose 2 ((stand 0 (any) 1 2) (end 1) (stand 3 (any) 1 0 2)))"))
(1, 1)

>>> from choosersrow.loosegames import LooseGame
>>> from choosersrow.loosevalues import stand_plans, stand_values
>>> loose = LooseGame.read("(loose 2 ((stand 0 (unlike 0) 1 1) (stand 0 (any) 2 3) (end 0) (end 1)))")
>>> stand_values(loose)
((0, 1), (0, 1), (0,), (1,))
>>> stand_plans(loose)
()

>>> from choosersrow.tablegames import TableGame, rest_plays
>>> rest_plays(TableGame(2, ((0, 1), (1, 0)), (("best", (0, 1)), ("fixed",))))
((0, 1),)

>>> from choosersrow.desk import Desk
>>> desk = Desk(2)
>>> desk.put("high", "aim", ("best", (0, 1)))
>>> desk.run(("put", "low", "tree", ("node", 0, ("aim", "high"), ("end", 0), ("end", 1))), ("rename", "high", "top"))
>>> desk.term_of("low")
('node', 0, ('aim', 'top'), ('end', 0), ('end', 1))
>>> desk.worked_term("low")
('node', 0, ('best', (0, 1)), ('end', 0), ('end', 1))
>>> (desk.names, desk.steps, desk.using_names("top"))
(('low', 'top'), 2, ('low',))

>>> from choosersrow.desk import Desk
>>> from choosersrow.deskreports import report_lines
>>> report_lines(Desk.read("(desk 2 ((a aim (any)) (b tree (node 0 (aim a) (end 0) (end 1))) (c tree (tree d))))"))
('a            aim      1 ready', 'b            tree     4 value 0 1', 'c            tree     1 open')
'''


class TestExamples(unittest.TestCase):
    def test_examples(self):
        test = doctest.DocTestParser().get_doctest(EXAMPLES, {}, "examples", "examples", 0)
        told = []
        result = doctest.DocTestRunner(verbose=False).run(test, out=told.append)
        self.assertGreater(result.attempted, 0)
        self.assertEqual(result.failed, 0, "".join(told))
