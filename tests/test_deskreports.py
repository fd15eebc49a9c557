"""Point 129: the reports of desks."""

from choosersrow.desk import Desk
from choosersrow.deskreports import report_lines
from choosersrow.gamevalues import game_value
from tests.deskoracles import drawn_papers, nested, put_all, state_of, told_worked, tuples_in
from tests.helpers import Case

ANY = ("any",)


def lines(text):
    return report_lines(Desk.read(text))


class TestReports(Case):
    def test_no_papers(self):
        self.assertEqual(report_lines(Desk(2)), ())

    def test_states(self):
        desk = Desk(3)
        desk.put("a", "aim", ("both", ("aim", "b"), ANY))
        desk.put("b", "aim", ("worst",))
        desk.put("c", "aim", ("aim", "z"))
        desk.put("d", "tree", ("node", 0, ("aim", "d"), ("end", 0)))
        desk.put("e", "tree", ("tree", "e"))
        desk.put("f", "tree", ((),) * 2000)
        desk.put("g", "aim", ((),) * 2000)
        desk.put("h", "tree", ("node", 0, ("aim", "b"), ("end", 0)))
        desk.put("i", "tree", ("node", 0, ("only", ()), ("end", 0)))
        desk.put("j", "tree", ("node", 0, ANY, ("end", 2), ("end", 0), ("end", 2), ("end", 1)))
        desk.put("k", "tree", ("end", 1))
        desk.put("l", "tree", "end")
        desk.put("m", "aim", 7)
        desk.put("n", "tree", ("node", 0, ("best", (0, 1, 2)), ("tree", "k"), ("end", 0)))
        self.assertEqual(report_lines(desk), (
            "a            aim      3 ready",
            "b            aim      1 ready",
            "c            aim      1 open",
            "d            tree     3 open",
            "e            tree     1 open",
            "f            tree  2001 large",
            "g            aim   2001 large",
            "h            tree     3 wrong",
            "i            tree     4 value none",
            "j            tree     6 value 0 1 2",
            "k            tree     1 value 1",
            "l            tree     0 wrong",
            "m            aim      0 ready",
            "n            tree     5 value 1",
        ))

    def test_long_and_short_names(self):
        self.assertEqual(lines("(desk 2 ((a aim (any)) (abcdefghijkl tree (end 0)) (b tree (tree abcdefghijkl))))"),
                         ("a            aim      1 ready", "abcdefghijkl tree     1 value 0", "b            tree     1 value 0"))

    def test_order_of_names(self):
        desk = Desk(2)
        for name in ["b", "aa", "z", "a", "ab"]:
            desk.put(name, "aim", ANY)
        self.assertEqual([line.split()[0] for line in report_lines(desk)], ["a", "aa", "ab", "b", "z"])

    def test_numbers_of_tuples(self):
        desk = Desk(2)
        for name, term in [("a", ((),) * 9998), ("b", ((),) * 9999), ("c", nested(20)), ("d", (("aim", "c"),) * 3)]:
            desk.put(name, "aim", term)
        self.assertEqual([line[18:23] for line in report_lines(desk)], [" 9999", "10000", "   20", "    4"])

    def test_games_that_are_too_large_are_wrong(self):
        desk = Desk(2)
        desk.put("a", "tree", ("node", 0, ANY) + (("tree", "b"),) * 8)
        desk.put("b", "tree", ("node", 0, ANY) + (("end", 0),) * 8)
        desk.put("c", "tree", ("node", 0, ANY) + (("tree", "b"),) * 7)
        self.assertEqual(report_lines(desk), ("a            tree    10 wrong", "b            tree    10 value 0",
                                              "c            tree     9 value 0"))

    def test_drawn_papers(self):
        for papers in drawn_papers(130, 120):
            desk = put_all(Desk(2), papers)
            before = state_of(desk)
            told = self.asked(report_lines, desk)
            self.assertEqual(state_of(desk), before)
            self.assertEqual(len(told), len(papers))
            for line, name in zip(told, sorted(papers)):
                kind, term = papers[name]
                self.assertEqual(line[:24], f"{name:<12} {kind:<4} {tuples_in(term):>5} ")
                if isinstance(told_worked(papers, name), list):
                    self.assertEqual(line[24:], "open")
                elif kind == "aim":
                    self.assertEqual(line[24:], "ready")
                else:
                    self.assertEqual(line[24:], "wrong")

    def test_values(self):
        desk = Desk.read("(desk 2 ((a aim (any)) (b tree (node 0 (aim a) (end 0) (end 1))) (c tree (tree d))))")
        self.assertEqual(report_lines(desk), ("a            aim      1 ready", "b            tree     4 value 0 1",
                                              "c            tree     1 open"))
        desk.put("d", "tree", ("node", 1, ("best", (0, 1)), ("tree", "b"), ("end", 0)))
        self.assertEqual(report_lines(desk)[2:], ("c            tree     1 value 0 1", "d            tree     5 value 0 1"))
        self.assertEqual(game_value(desk.make_game("c")), (0, 1))
