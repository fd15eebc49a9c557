"""Points 121 to 123 and 128: desks, papers, edits and texts."""

from choosersrow.desk import Desk
from choosersrow.errors import (EditFailed, InvalidName, InvalidTerm, InvalidText, NameTaken, OutOfRange, TooLarge,
                                UnknownName)
from tests.deskoracles import NO_WORDS, drawn_papers, nested, papers_on, put_all, state_of
from tests.helpers import Case

ANY = ("any",)


class DeskCase(Case):
    def fails(self, desk, kind, call, *args, **more):
        """Assert that the call raises this very class twice and changes nothing, and return the error."""
        before = state_of(desk)
        error = self.refused(kind, call, *args, **more)
        self.assertEqual(state_of(desk), before)
        return error


def full_desk():
    """Return a desk with 20 papers and the limit 100."""
    desk = Desk(2)
    desk.keep(100)
    for letter in "abcdefghijklmnopqrst":
        desk.put(letter, "aim", ANY)
    return desk


class TestDesks(DeskCase):
    def test_new_desks(self):
        for outcomes in (1, 2, 3, 4):
            desk = Desk(outcomes)
            self.assertEqual((desk.outcomes, desk.names, desk.steps, desk.undone, desk.limit), (outcomes, (), 0, 0, 20))

    def test_numbers_of_outcomes(self):
        for outcomes in (0, 5, -1, 10 ** 20):
            self.refused(OutOfRange, Desk, outcomes)

    def test_in(self):
        desk = Desk(2)
        desk.put("high", "aim", ANY)
        self.assertIs("high" in desk, True)
        for name in ["low", "aim", "highs"] + NO_WORDS:
            self.assertIs(name in desk, False)

    def test_kinds_and_terms(self):
        desk = Desk(2)
        desk.put("high", "aim", ("best", (0, 1)))
        desk.put("low", "tree", ("aim", "high"))
        desk.put("word", "tree", "end")
        desk.put("number", "aim", 999999999)
        self.assertEqual(papers_on(desk), {"high": ("aim", ("best", (0, 1))), "low": ("tree", ("aim", "high")),
                                           "word": ("tree", "end"), "number": ("aim", 999999999)})
        self.assertEqual(self.asked(lambda: desk.names), ("high", "low", "number", "word"))
        for name in ["lower", "aim"] + NO_WORDS:
            self.assertEqual(self.fails(desk, UnknownName, desk.kind_of, name).name, name)
            self.assertEqual(self.fails(desk, UnknownName, desk.term_of, name).name, name)

    def test_properties_that_cannot_be_assigned(self):
        for name in ("names", "steps", "undone"):
            with self.assertRaises(AttributeError):
                setattr(Desk(2), name, 1)


class TestPutting(DeskCase):
    def test_replacing(self):
        desk = Desk(2)
        desk.put("a", "aim", ANY)
        desk.put("a", "tree", ("end", 0))
        self.assertEqual(papers_on(desk), {"a": ("tree", ("end", 0))})
        self.assertIsNone(desk.put("a", "tree", ("end", 0)))
        self.assertEqual(desk.steps, 3)

    def test_names(self):
        desk = Desk(2)
        for name in NO_WORDS:
            for kind, term in [("aim", ANY), ("other", -1), (7, nested(40))]:
                self.fails(desk, InvalidName, desk.put, name, kind, term)
        for name in ["a", "z", "abcdefghijkl", "aim", "tree", "put"]:
            desk.put(name, "aim", ANY)
            self.assertIn(name, desk)

    def test_kinds(self):
        desk = Desk(2)
        for kind in ["", "game", "Aim", "aims", "trees", 7, (), None]:
            for term in [ANY, -1, nested(21), nested(31)]:
                self.fails(desk, OutOfRange, desk.put, "a", kind, term)

    def test_terms(self):
        desk = Desk(2)
        for term, path in [(-1, ()), ("A", ()), (10 ** 9, ()), ((0, "a", ("", -1)), (2, 0)), (("a", None), (1,)),
                           (nested(31), (0,) * 30), (nested(35), (0,) * 30), ((nested(25), -1), (1,)), ([], ()),
                           ((nested(30), "B"), (0,) * 30)]:
            self.assertEqual(self.fails(desk, InvalidTerm, desk.put, "a", "aim", term).path, path)

    def test_depths(self):
        desk = Desk(2)
        for depth in (0, 1, 19, 20):
            desk.put("a", "tree", nested(depth))
            self.assertEqual(desk.term_of("a"), nested(depth))
        # The empty tuple is one deep, as any tuple without a tuple in it.
        desk.put("a", "tree", nested(19, ()))
        self.assertEqual(desk.term_of("a"), nested(19, ()))
        for depth in (21, 22, 30):
            self.fails(desk, TooLarge, desk.put, "a", "tree", nested(depth))
            self.fails(desk, TooLarge, desk.put, "b", "tree", (0, nested(depth - 1)))
        self.fails(desk, TooLarge, desk.put, "a", "aim", nested(20, ()))
        # A use is a tuple, too.
        self.fails(desk, TooLarge, desk.put, "a", "aim", nested(20, ("aim", "b")))
        desk.put("a", "aim", nested(19, ("aim", "b")))

    def test_twenty_papers(self):
        desk = full_desk()
        self.assertEqual(len(desk.names), 20)
        for name in ("u", "aa"):
            self.fails(desk, TooLarge, desk.put, name, "aim", ANY)
            self.assertEqual(self.fails(desk, InvalidTerm, desk.put, name, "aim", -1).path, ())
            self.fails(desk, OutOfRange, desk.put, name, "aims", ANY)
        self.fails(desk, InvalidName, desk.put, "A", "aim", ANY)
        desk.put("t", "tree", ("end", 1))
        self.assertEqual(desk.kind_of("t"), "tree")
        desk.drop("c")
        desk.put("u", "aim", ANY)
        self.assertEqual(len(desk.names), 20)
        desk.rename("u", "uu")
        self.assertIn("uu", desk)


class TestDroppingAndRenaming(DeskCase):
    def test_drop(self):
        desk = Desk(2)
        desk.put("a", "aim", ANY)
        desk.put("b", "aim", ("aim", "a"))
        self.assertIsNone(desk.drop("a"))
        self.assertEqual(papers_on(desk), {"b": ("aim", ("aim", "a"))})
        for name in ["a", "c"] + NO_WORDS:
            self.assertEqual(self.fails(desk, UnknownName, desk.drop, name).name, name)

    def test_rename(self):
        desk = Desk(2)
        desk.put("a", "aim", ANY)
        desk.put("b", "tree", ("node", ("aim", "a"), (("aim", "a"), ("tree", "a")), ("aim", "b"), ("aim", "a", 0), "a"))
        desk.put("c", "aim", ("aim", "a"))
        self.assertIsNone(desk.rename("a", "z"))
        self.assertEqual(papers_on(desk), {
            "z": ("aim", ANY), "c": ("aim", ("aim", "z")),
            "b": ("tree", ("node", ("aim", "z"), (("aim", "z"), ("tree", "a")), ("aim", "b"), ("aim", "a", 0), "a"))})
        self.assertEqual(desk.names, ("b", "c", "z"))

    def test_rename_a_paper_that_uses_itself(self):
        desk = Desk(2)
        desk.put("a", "tree", ("either", ("tree", "a"), ("aim", "a"), ("aim", ("tree", "a"))))
        desk.rename("a", "tree")
        self.assertEqual(papers_on(desk), {"tree": ("tree", ("either", ("tree", "tree"), ("aim", "a"),
                                                             ("aim", ("tree", "tree"))))})

    def test_uses_that_stood_for_nothing(self):
        desk = Desk(2)
        desk.put("a", "aim", ("aim", "b"))
        desk.put("c", "aim", ANY)
        # The use of b stands for the paper after it, but it is not renamed with it before.
        desk.rename("c", "b")
        self.assertEqual(desk.term_of("a"), ("aim", "b"))
        desk.rename("b", "d")
        self.assertEqual(desk.term_of("a"), ("aim", "d"))

    def test_wrong_names(self):
        desk = Desk(2)
        desk.put("a", "aim", ANY)
        desk.put("b", "aim", ("aim", "a"))
        for old in ["c", "aim"] + NO_WORDS:
            for new in ["d", "a", "A", 7]:
                self.assertEqual(self.fails(desk, UnknownName, desk.rename, old, new).name, old)
        for new in NO_WORDS:
            self.fails(desk, InvalidName, desk.rename, "a", new)
        for new in ("a", "b"):
            self.assertEqual(self.fails(desk, NameTaken, desk.rename, "a", new).name, new)


class TestRunning(DeskCase):
    def test_edits(self):
        desk = Desk(2)
        self.assertIsNone(desk.run(("put", "a", "aim", ANY), ("put", "b", "aim", ("not", ("aim", "a"))), ("rename", "a", "c"),
                                   ("put", "d", "tree", ("end", 0)), ("drop", "d")))
        self.assertEqual(papers_on(desk), {"c": ("aim", ANY), "b": ("aim", ("not", ("aim", "c")))})
        self.assertEqual((desk.steps, desk.undone), (1, 0))
        desk.undo()
        self.assertEqual((papers_on(desk), desk.steps, desk.undone), ({}, 0, 1))
        desk.redo()
        self.assertEqual(desk.names, ("b", "c"))

    def test_no_edits(self):
        desk = Desk(2)
        desk.put("a", "aim", ANY)
        desk.undo()
        before = state_of(desk)
        self.assertIsNone(desk.run())
        self.assertEqual(state_of(desk), before)

    def test_one_edit(self):
        desk = Desk(2)
        desk.run(("put", "a", "aim", ANY))
        self.assertEqual(desk.steps, 1)

    def test_failing_edits(self):
        desk = Desk(2)
        desk.put("a", "aim", ANY)
        desk.put("b", "aim", ANY)
        desk.undo()
        good = ("put", "c", "aim", ANY)
        for edits, index, kind in [([("drop", "b")], 0, UnknownName), ([good, ("drop", "c"), ("drop", "c")], 2, UnknownName),
                                   ([good, ("rename", "c", "a")], 1, NameTaken), ([("put", "A", "aim", ANY), good], 0, InvalidName),
                                   ([good, good, ("put", "b", "aims", ANY)], 2, OutOfRange),
                                   ([("drop", "a"), ("put", "b", "aim", (0, -1))], 1, InvalidTerm),
                                   ([("put", "b", "aim", nested(21)), ("drop", "x")], 0, TooLarge),
                                   ([good, ("rename", "a", "A")], 1, InvalidName), ([("rename", "b", "c")], 0, UnknownName)]:
            before = state_of(desk)
            error = self.refused(EditFailed, desk.run, *edits)
            self.assertEqual(error.index, index)
            self.assertIs(type(error.__cause__), kind)
            self.assertEqual(state_of(desk), before)
        self.assertEqual((desk.steps, desk.undone), (1, 1))
        error = self.refused(EditFailed, desk.run, good, ("put", "b", "aim", (0, (-1,))))
        self.assertEqual(error.__cause__.path, (1, 0))
        self.assertEqual(self.refused(EditFailed, desk.run, ("drop", "zz")).__cause__.name, "zz")

    def test_the_21st_paper(self):
        desk = full_desk()
        error = self.refused(EditFailed, desk.run, ("put", "a", "tree", ("end", 0)), ("put", "u", "aim", ANY))
        self.assertEqual((error.index, type(error.__cause__)), (1, TooLarge))
        desk.run(("drop", "a"), ("put", "u", "aim", ANY))
        self.assertEqual((len(desk.names), desk.steps), (20, 21))

    def test_edits_make_no_steps_of_their_own(self):
        desk = Desk(2)
        desk.keep(1)
        desk.put("a", "aim", ANY)
        desk.run(*[("put", "b", "aim", (number,)) for number in range(30)])
        self.assertEqual((desk.steps, desk.term_of("b")), (1, (29,)))
        desk.undo()
        self.assertEqual(desk.names, ("a",))


class TestTexts(DeskCase):
    def test_text(self):
        desk = Desk(3)
        self.assertEqual(desk.text(), "(desk 3 ())")
        desk.put("low", "tree", ("node", 0, ("aim", "high"), ("end", 0)))
        desk.put("high", "aim", ("best", (0, 1)))
        desk.put("higher", "aim", 7)
        self.assertEqual(desk.text(), "(desk 3 ((high aim (best (0 1))) (higher aim 7) "
                                      "(low tree (node 0 (aim high) (end 0)))))")

    def test_read_back(self):
        for papers in drawn_papers(110, 60):
            desk = put_all(Desk(2), papers)
            again = Desk.read(desk.text())
            self.assertIs(type(again), Desk)
            self.assertEqual((again.outcomes, papers_on(again), again.text()), (2, papers, desk.text()))
            self.assertEqual((again.steps, again.undone, again.limit), (0, 0, 20))

    def test_a_read_desk_has_no_steps(self):
        desk = full_desk()
        desk.undo()
        again = Desk.read(desk.text())
        self.assertEqual((again.steps, again.undone, again.limit, len(again.names)), (0, 0, 20, 19))
        again.put("t", "aim", ANY)
        self.assertEqual(again.steps, 1)
        self.assertEqual(desk.steps, 19)

    def test_deepest_papers(self):
        desk = Desk(2)
        desk.put("a", "aim", nested(20))
        self.assertEqual(papers_on(Desk.read(desk.text())), {"a": ("aim", nested(20))})

    def test_broken_texts(self):
        for text, position in [("", 0), ("(desk 2 ()", 10), ("(desk 2 ()))", 11), ("(desk 9  7)", 8), ("(desk 02 ())", 7),
                               ("(desk 2 ((a aim (any)) (b aim (Any))))", 31)]:
            self.assertEqual(self.refused(InvalidText, Desk.read, text).position, position, text)

    def test_other_terms(self):
        for text in ["desk", "2", "()", "(desk)", "(desk 2)", "(desk 2 () 0)", "(desks 2 ())", "(2 2 ())", "(desk a ())",
                     "(desk (2) ())", "(desk 9 7)", "(desk 9 a)", "((desk) 2 ())", "(desk 9 (a))", "(desk 9 (7))",
                     "(desk 9 (()))", "(desk 9 ((a aim)))", "(desk 9 ((a aim 0 0)))", "(desk 9 ((7 aim 0)))",
                     "(desk 9 (((a) aim 0)))", "(desk 9 ((a aims 0)))", "(desk 9 ((a 7 0)))", "(desk 9 ((a (aim) 0)))",
                     "(desk 9 ((a aim 0) b))", "(desk 2 ((a aim 0) (a aim 0)))", "(desk 2 ((a aim 0) (a tree 1)))",
                     "(desk 2 ((b aim 0) (a aim 0)))", "(desk 2 ((aa aim 0) (a aim 0)))",
                     "(desk 2 ((a aim 0) (c aim 0) (b aim 0)))"]:
            self.assertEqual(self.refused(InvalidTerm, Desk.read, text).path, (), text)
        self.assertEqual(Desk.read("(desk 2 ((a aim 0) (aa aim 0) (ab aim 0) (b aim 0)))").names, ("a", "aa", "ab", "b"))

    def test_order_of_errors(self):
        deep = "(" * 21 + "x" + ")" * 21
        many = " ".join([f"({letter} aim 0)" for letter in "abcdefghijklmnopqrstu"])
        for papers in ["", f"(a aim {deep})", many]:
            for outcomes in (0, 5):
                self.refused(OutOfRange, Desk.read, f"(desk {outcomes} ({papers}))")
        self.refused(TooLarge, Desk.read, f"(desk 2 ((a aim {deep})))")
        self.refused(TooLarge, Desk.read, f"(desk 2 ({many}))")
        self.assertEqual(len(Desk.read(f"(desk 2 ({many[:-10]}))").names), 20)
        self.refused(InvalidTerm, Desk.read, f"(desk 9 ((a aim {deep}) (a aim 0)))")
        self.refused(InvalidTerm, Desk.read, f"(desk 9 ({many} (a aim 0)))")
        text = f"(desk 9 ((a aim {deep}) (a aim 0))"
        self.assertEqual(self.refused(InvalidText, Desk.read, text).position, len(text))
