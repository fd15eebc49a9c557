"""Point 17: the texts of aims and choosers."""

import random

from choosersrow.aims import Aim
from choosersrow.choosers import Chooser
from choosersrow.errors import InvalidAim, InvalidChooser, InvalidTerm, InvalidText, OutOfRange
from tests.helpers import SMALL_SIZES, Case, contexts
from tests.oracles import drawn_term


class TestAimTexts(Case):
    def test_text(self):
        self.assertEqual(Aim(("best", (0, 5, 5)), 4, 3).text(), "(aim 4 3 (best (0 5 5)))")
        self.assertEqual(Aim(("only", ()), 64, 1).text(), "(aim 64 1 (only ()))")

    def test_read_back(self):
        source = random.Random(6)
        for options, outcomes in SMALL_SIZES + [(9, 2), (64, 4)]:
            for _ in range(5):
                aim = Aim(drawn_term(source, options, outcomes, 6), options, outcomes)
                again = Aim.read(aim.text())
                self.assertIs(type(again), Aim)
                self.assertEqual((again.term, again.options, again.outcomes), (aim.term, options, outcomes))
                self.assertEqual(again.text(), aim.text())

    def test_broken_texts(self):
        for text, position in [("", 0), ("(aim 2 2 (any)", 14), ("(aim 2 2 (any)))", 15), ("(aim 2 02 (any))", 8),
                               ("(aim  0 9 (any))", 5), ("(aim 0 9 (any)) ", 15), ("(Aim 2 2 (any))", 1)]:
            self.assertEqual(self.refused(InvalidText, Aim.read, text).position, position, text)

    def test_other_terms(self):
        for text in ["aim", "7", "()", "(aim)", "(aim 2 2)", "(aim 2 2 (any) 0)", "(chooser 2 2 (any))",
                     "(aims 0 9 (any))", "(2 2 2 (any))", "((aim) 2 2 (any))", "(aim a 2 (any))",
                     "(aim 2 (2) (any))", "(aim () 9 (worst))", "(aim 0 a (worst))", "(any)"]:
            self.assertEqual(self.refused(InvalidTerm, Aim.read, text).path, (), text)

    def test_what_creating_raises(self):
        for text in ["(aim 0 2 (any))", "(aim 65 2 (any))", "(aim 2 0 (any))", "(aim 2 5 (worst))", "(aim 0 0 7)"]:
            self.refused(OutOfRange, Aim.read, text)
        for text, path in [("(aim 2 2 any)", ()), ("(aim 2 2 7)", ()), ("(aim 2 2 (worst))", ()),
                           ("(aim 2 2 (best (0 10)))", (1, 1)), ("(aim 2 2 (not (like 2)))", (1, 1)),
                           ("(aim 9 2 (table ()))", ())]:
            self.assertEqual(self.refused(InvalidAim, Aim.read, text).path, path, text)


class TestChooserTexts(Case):
    def test_text(self):
        self.assertEqual(Chooser(2, 2, (0, 1, 0, 0)).text(), "(chooser 2 2 (0 1 0 0))")

    def test_read_back(self):
        source = random.Random(7)
        for options, outcomes in SMALL_SIZES:
            row = tuple(source.randrange(options) for _ in contexts(options, outcomes))
            chooser = Chooser(options, outcomes, row)
            again = Chooser.read(chooser.text())
            self.assertIs(type(again), Chooser)
            self.assertEqual((again.options, again.outcomes, again.row), (options, outcomes, row))

    def test_broken_texts(self):
        for text, position in [("", 0), ("(chooser 1 1 (0)", 16), ("(chooser 1 1 (0)))", 17), ("(chooser 1 1 (00))", 15),
                               ("(chooser 0 9 a b", 16), ("(chooser 0 9  a)", 13)]:
            self.assertEqual(self.refused(InvalidText, Chooser.read, text).position, position, text)

    def test_other_terms(self):
        for text in ["chooser", "7", "()", "(chooser 1 1)", "(chooser 1 1 (0) 0)", "(aim 1 1 (0))", "(aim 1 1 (any))",
                     "(chooser 1 1 0)", "(chooser 1 1 a)", "(chooser a 1 (0))", "(chooser 1 (1) (0))",
                     "(chooser 0 9 a)", "(chooser 0 () ())", "((chooser) 1 1 (0))"]:
            self.assertEqual(self.refused(InvalidTerm, Chooser.read, text).path, (), text)

    def test_what_creating_raises(self):
        for text in ["(chooser 0 2 ())", "(chooser 9 1 (0))", "(chooser 5 4 (a))", "(chooser 1 0 (0))"]:
            self.refused(OutOfRange, Chooser.read, text)
        for text, index in [("(chooser 2 2 ())", 0), ("(chooser 2 2 (0 1 0))", 3), ("(chooser 2 2 (0 a 0 2))", 1),
                            ("(chooser 2 2 (0 1 2 0))", 2), ("(chooser 2 2 (0 1 0 0 0))", 4),
                            ("(chooser 2 2 ((0) 1 0 0))", 0)]:
            self.assertEqual(self.refused(InvalidChooser, Chooser.read, text).index, index, text)
