"""Points 125 to 127: worked terms, games and aims of papers, and the names that papers need."""

from choosersrow.aims import Aim
from choosersrow.desk import Desk
from choosersrow.errors import CircularUse, InvalidAim, InvalidGame, OutOfRange, TooLarge, UnknownName
from choosersrow.games import Game
from tests.deskoracles import (NO_WORDS, depth_of, drawn_papers, nested, papers_on, put_all, told_behind, told_used,
                               told_uses, told_worked, tuples_in)
from tests.test_desk import DeskCase

ANY = ("any",)
WORDS = {"unknown": UnknownName, "circular": CircularUse}


def desk_with(outcomes=2, **papers):
    """Return a desk with the papers; an underscore and a word behind the name tells the kind tree."""
    desk = Desk(outcomes)
    for name, term in papers.items():
        word, _, tree = name.partition("_")
        desk.put(word, "tree" if tree else "aim", term)
    return desk


class TestWorkedTerms(DeskCase):
    def test_drawn_papers(self):
        for papers in drawn_papers(120, 300):
            desk = put_all(Desk(2), papers)
            for name in papers:
                told = told_worked(papers, name)
                if isinstance(told, list):
                    error = self.fails(desk, WORDS[told[0]], desk.worked_term, name)
                    self.assertEqual(error.name, told[1], papers)
                else:
                    self.assertEqual(self.asked(desk.worked_term, name), told)

    def test_by_hand(self):
        desk = desk_with(a=("not", ("aim", "b")), b=("both", ("aim", "c"), ("aim", "c")), c=ANY, d_tree=("aim", "c"))
        self.assertEqual(desk.worked_term("a"), ("not", ("both", ANY, ANY)))
        self.assertEqual(desk.worked_term("d"), ANY)
        self.assertEqual(desk.term_of("a"), ("not", ("aim", "b")))

    def test_words_and_numbers(self):
        desk = desk_with(a=(("aim", "b"), ("aim", "c"), ("aim", "d")), b="x", c=7, d=())
        self.assertEqual(desk.worked_term("a"), ("x", 7, ()))
        self.assertEqual((desk.worked_term("b"), desk.worked_term("c")), ("x", 7))

    def test_names_that_no_paper_has(self):
        desk = desk_with(a=ANY)
        for name in ["b", "any"] + NO_WORDS:
            self.assertEqual(self.fails(desk, UnknownName, desk.worked_term, name).name, name)

    def test_what_looks_like_a_use_after_replacing(self):
        desk = desk_with(a=("aim", ("aim", "b")), b="a", c=(("aim", "d"), "b"), d="aim", e=("tree", ("tree", "f")), f_tree="b")
        self.assertEqual(desk.worked_term("a"), ("aim", "a"))
        self.assertEqual(desk.worked_term("c"), ("aim", "b"))
        self.assertEqual(desk.worked_term("e"), ("tree", "b"))
        desk.put("g", "aim", ("x", ("aim", "a"), ("aim", "c")))
        self.assertEqual(desk.worked_term("g"), ("x", ("aim", "a"), ("aim", "b")))

    def test_uses_that_stand_for_nothing(self):
        desk = desk_with(a=("aim", "z"), b=("x", ("aim", "a")), c=("tree", "d"), d=ANY, e_tree=("aim", "e"),
                         f=(("aim", "abcdefghijkl"), ("aim", "z")))
        for name, used in [("a", "z"), ("b", "z"), ("c", "d"), ("e", "e"), ("f", "abcdefghijkl")]:
            self.assertEqual(self.fails(desk, UnknownName, desk.worked_term, name).name, used)

    def test_what_is_no_use(self):
        term = (("aim",), ("aim", 7), ("aim", "z", "z"), ("Aim", "z")[1:], ("aim", ("z",)), ("best", "z"), "aim", ())
        desk = desk_with(a=term)
        self.assertEqual(desk.worked_term("a"), term)
        self.assertEqual(desk.needed_names("a"), ())

    def test_circles(self):
        desk = desk_with(a=("aim", "a"), b=("x", ("aim", "c")), c=("aim", "d"), d=("y", ("aim", "b")), e=("aim", "d"),
                         f=(("aim", "g"), ("aim", "g")), g=ANY)
        for name, used in [("a", "a"), ("b", "b"), ("c", "c"), ("d", "d"), ("e", "d")]:
            self.assertEqual(self.fails(desk, CircularUse, desk.worked_term, name).name, used)
        self.assertEqual(desk.worked_term("f"), (ANY, ANY))

    def test_which_wrong_use_comes_first(self):
        for first, second, name, kind in [("z", "a", "z", UnknownName), ("a", "z", "a", CircularUse),
                                          ("b", "z", "y", UnknownName), ("c", "z", "a", CircularUse),
                                          ("d", "z", "d", CircularUse), ("e", "a", "a", CircularUse)]:
            desk = desk_with(a=(("aim", first), ("aim", second)), b=("x", ("aim", "y")), c=("aim", "a"), d=("aim", "d"), e=ANY)
            self.assertEqual(self.fails(desk, kind, desk.worked_term, "a").name, name)

    def test_a_paper_that_is_used_twice(self):
        # The second time, one has not come through the paper.
        desk = desk_with(a=(("aim", "b"), ("aim", "c"), ("aim", "b")), b=("aim", "c"), c=("aim", "d"), d=5)
        self.assertEqual(desk.worked_term("a"), (5, 5, 5))

    def test_numbers_of_tuples(self):
        # Paper b has 99 tuples, and nineteen uses of it make 1881.
        ninety_nine = ((),) * 98
        self.assertEqual(tuples_in(ninety_nine), 99)
        for more, allowed in [(118, True), (119, False), (500, False)]:
            desk = desk_with(a=(("aim", "b"),) * 19 + ((),) * more, b=ninety_nine)
            if allowed:
                self.assertEqual(tuples_in(desk.worked_term("a")), 2000)
            else:
                self.fails(desk, TooLarge, desk.worked_term, "a")
        desk = desk_with(a=((),) * 1999, b=((),) * 2000, c=("aim", "b"), d=("aim", "a"), e=(("aim", "a"),))
        self.assertEqual(desk.worked_term("d"), ((),) * 1999)
        for name in "bce":
            self.fails(desk, TooLarge, desk.worked_term, name)

    def test_uses_do_not_count_where_they_are_replaced(self):
        desk = desk_with(a=(("aim", "b"),) * 3000, b="x")
        self.assertEqual(desk.worked_term("a"), ("x",) * 3000)

    def test_very_many_tuples(self):
        desk = Desk(2)
        names = "abcdefghijklmnopqrst"
        for name, used in zip(names, names[1:]):
            desk.put(name, "aim", (("aim", used),) * 50)
        desk.put("t", "aim", ())
        self.fails(desk, TooLarge, desk.worked_term, "a")
        self.assertEqual(tuples_in(desk.worked_term("s")), 51)
        desk.put("t", "aim", ("aim", "a"))
        self.assertEqual(self.fails(desk, CircularUse, desk.worked_term, "a").name, "a")
        desk.put("t", "aim", ("aim", "z"))
        self.assertEqual(self.fails(desk, UnknownName, desk.worked_term, "a").name, "z")

    def test_depths(self):
        # The use at the end of a paper that is 20 deep is its 20th tuple, and it is replaced.
        for last, allowed in [(2, True), (3, True), (4, False), (5, False)]:
            desk = desk_with(a=nested(19, ("aim", "b")), b=nested(19, ("aim", "c")), c=nested(19, ("aim", "d")), d=nested(last))
            if allowed:
                self.assertEqual(depth_of(desk.worked_term("a")), 57 + last)
            else:
                self.fails(desk, TooLarge, desk.worked_term, "a")
            self.assertEqual(depth_of(desk.worked_term("b")), 38 + last)
        desk = desk_with(a=nested(19, ("aim", "b")), b=nested(19, ("aim", "c")), c=nested(19, ("aim", "d")), d=nested(2, ()))
        self.assertEqual(depth_of(desk.worked_term("a")), 60)
        desk = desk_with(a=("x", nested(18, ("aim", "b")), nested(3)), b=nested(20))
        self.assertEqual(depth_of(desk.worked_term("a")), 39)

    def test_long_chains(self):
        desk = Desk(2)
        names = "abcdefghijklmnopqrst"
        for name, used in zip(names, names[1:]):
            desk.put(name, "tree", nested(19, ("tree", used)))
        desk.put("t", "tree", nested(20))
        self.fails(desk, TooLarge, desk.worked_term, "a")
        self.assertEqual(depth_of(desk.worked_term("r")), 58)
        desk.put("t", "tree", ("tree", "a"))
        self.assertEqual(self.fails(desk, CircularUse, desk.worked_term, "b").name, "b")

    def test_wrong_uses_come_before_sizes(self):
        desk = desk_with(a=((),) * 3000 + (("aim", "z"),), b=((),) * 3000 + (("aim", "b"),))
        self.assertEqual(self.fails(desk, UnknownName, desk.worked_term, "a").name, "z")
        self.assertEqual(self.fails(desk, CircularUse, desk.worked_term, "b").name, "b")


class TestMaking(DeskCase):
    def desk(self):
        return desk_with(3, high=("best", (0, 1, 2)), low=("best", (2, 1, 0)), end_tree=("end", 2),
                         whole_tree=("node", 1, ("aim", "high"), ("tree", "part"), ("tree", "end")),
                         part_tree=("node", 0, ("not", ("aim", "low")), ("end", 0), ("tree", "end")))

    def test_games(self):
        game = self.desk().make_game("whole")
        self.assertIs(type(game), Game)
        self.assertEqual((game.outcomes, game.tree), (3, (
            "node", 1, ("best", (0, 1, 2)), ("node", 0, ("not", ("best", (2, 1, 0))), ("end", 0), ("end", 2)), ("end", 2))))
        self.assertEqual(self.desk().make_game("end").tree, ("end", 2))

    def test_aims(self):
        desk = self.desk()
        for options in (1, 2, 64):
            aim = desk.make_aim("high", options)
            self.assertIs(type(aim), Aim)
            self.assertEqual((aim.term, aim.options, aim.outcomes), (("best", (0, 1, 2)), options, 3))

    def test_changes_show_in_later_games(self):
        desk = self.desk()
        before = desk.make_game("whole")
        desk.put("low", "aim", ANY)
        desk.rename("part", "partly")
        after = desk.make_game("whole")
        self.assertEqual(after.tree[3][2], ("not", ANY))
        self.assertEqual(before.tree[3][2], ("not", ("best", (2, 1, 0))))
        aim = desk.make_aim("high", 2)
        desk.put("high", "aim", ("most",))
        self.assertEqual((aim.term, desk.make_aim("high", 2).term), (("best", (0, 1, 2)), ("most",)))
        desk.undo()
        self.assertEqual(desk.make_aim("high", 2).term, ("best", (0, 1, 2)))

    def test_papers_of_the_other_kind(self):
        desk = self.desk()
        for name in ["high", "none"] + NO_WORDS:
            self.assertEqual(self.fails(desk, UnknownName, desk.make_game, name).name, name)
        for name in ["whole", "none"] + NO_WORDS:
            for options in (2, 0, 99):
                self.assertEqual(self.fails(desk, UnknownName, desk.make_aim, name, options).name, name)

    def test_errors_of_worked_terms(self):
        desk = desk_with(a=("aim", "z"), b=("aim", "b"), c=((),) * 2000, d_tree=("tree", "z"), e_tree=("tree", "e"),
                         f_tree=((),) * 2000)
        for options in (2, 0, 65):
            self.assertEqual(self.fails(desk, UnknownName, desk.make_aim, "a", options).name, "z")
            self.assertEqual(self.fails(desk, CircularUse, desk.make_aim, "b", options).name, "b")
            self.fails(desk, TooLarge, desk.make_aim, "c", options)
        self.assertEqual(self.fails(desk, UnknownName, desk.make_game, "d").name, "z")
        self.assertEqual(self.fails(desk, CircularUse, desk.make_game, "e").name, "e")
        self.fails(desk, TooLarge, desk.make_game, "f")

    def test_what_creating_raises(self):
        desk = self.desk()
        for options in (0, 65, -1, 10 ** 20):
            self.fails(desk, OutOfRange, desk.make_aim, "high", options)
        desk.put("worst", "aim", ("not", ("aim", "other")))
        desk.put("other", "aim", ("like", 5))
        self.assertEqual(self.fails(desk, InvalidAim, desk.make_aim, "worst", 3).path, (1, 1))
        self.assertEqual(desk.make_aim("worst", 6).term, ("not", ("like", 5)))
        desk.put("tree", "tree", ("node", 0, ("aim", "worst"), ("tree", "whole")))
        error = self.fails(desk, InvalidGame, desk.make_game, "tree")
        self.assertEqual((error.path, type(error.__cause__)), ((2, 1, 1), InvalidAim))
        desk.put("tree", "tree", ("node", 0, ANY, ("end", 3)))
        self.assertEqual(self.fails(desk, InvalidGame, desk.make_game, "tree").path, (3, 1))
        desk.put("tree", "tree", ("node", 0, ANY) + (("tree", "many"),) * 5)
        desk.put("many", "tree", ("node", 0, ANY) + (("tree", "few"),) * 5)
        desk.put("few", "tree", ("node", 0, ANY, ("end", 0)))
        self.fails(desk, TooLarge, desk.make_game, "tree")
        self.assertEqual(desk.make_game("many").plans, 5)


class TestNames(DeskCase):
    def test_drawn_papers(self):
        for papers in drawn_papers(121, 200):
            desk = put_all(Desk(2), papers)
            behind = {name: told_behind(papers, name) for name in papers}
            for name in papers:
                needed = {use[1] for other in behind[name] | {name} for use in told_uses(papers[other][1])}
                self.assertEqual(self.asked(desk.needed_names, name), tuple(sorted(needed)))
                using = {other for other in papers if name in behind[other]}
                self.assertEqual(self.asked(desk.using_names, name), tuple(sorted(using)))
                self.assertLessEqual(told_used(papers, name), needed)

    def test_by_hand(self):
        desk = desk_with(a=(("aim", "b"), ("tree", "c"), ("aim", "d"), ("aim", "z")), b=("aim", "d"), c=("aim", "e"), d=ANY,
                         e=ANY, f_tree=("aim", "f"), g_tree=("tree", "g"))
        # The use of c stands for a tree, so what paper c uses is not needed.
        self.assertEqual(self.asked(desk.needed_names, "a"), ("b", "c", "d", "z"))
        self.assertEqual(desk.needed_names("d"), ())
        self.assertEqual(desk.needed_names("f"), ("f",))
        self.assertEqual(desk.needed_names("g"), ("g",))
        self.assertEqual(self.asked(desk.using_names, "d"), ("a", "b"))
        self.assertEqual(desk.using_names("c"), ())
        self.assertEqual(desk.using_names("e"), ("c",))
        self.assertEqual(desk.using_names("f"), ())
        self.assertEqual(desk.using_names("g"), ("g",))

    def test_papers_that_use_themselves_round_about(self):
        desk = desk_with(a=("aim", "b"), b=("aim", "c"), c=("aim", "a"), d=(("aim", "a"), ("aim", "y")), e=ANY)
        for name in "abc":
            self.assertEqual(desk.needed_names(name), ("a", "b", "c"))
            self.assertEqual(desk.using_names(name), ("a", "b", "c", "d"))
        self.assertEqual(desk.needed_names("d"), ("a", "b", "c", "y"))
        self.assertEqual(desk.using_names("d"), ())
        self.assertEqual(desk.using_names("e"), ())

    def test_names_that_no_paper_has(self):
        desk = desk_with(a=("aim", "z"))
        for name in ["z", "b"] + NO_WORDS:
            self.assertEqual(self.fails(desk, UnknownName, desk.needed_names, name).name, name)
            self.assertEqual(self.fails(desk, UnknownName, desk.using_names, name).name, name)

    def test_papers_stay(self):
        desk = desk_with(a=("aim", "b"), b=ANY)
        before = papers_on(desk)
        for call in (desk.worked_term, desk.needed_names, desk.using_names):
            call("a")
        self.assertEqual((papers_on(desk), desk.steps), (before, 2))
