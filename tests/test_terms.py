"""Points 3 to 5: terms, their texts and their paths."""

import random
import re

from choosersrow.errors import InvalidTerm, InvalidText
from choosersrow.terms import read_term, write_term
from tests.helpers import Case

ATOM = re.compile("[a-z]{1,12}|0|[1-9][0-9]{0,8}")
TERMS = [
    ("a", "a"),
    ("abcdefghijkl", "abcdefghijkl"),
    ("mnopqrstuvwx", "mnopqrstuvwx"),
    ("yz", "yz"),
    (0, "0"),
    (7, "7"),
    (10, "10"),
    (999999999, "999999999"),
    ((), "()"),
    (((),), "(())"),
    (((), ()), "(() ())"),
    (("best", (0, 12), ()), "(best (0 12) ())"),
    ((("any",), 7), "((any) 7)"),
    ((0, 0, "zero", ((("x",),),), 405), "(0 0 zero (((x))) 405)"),
]
SAMPLES = ["a", "abcdefghijkl", "0", "10", "999999999", "()", "(a)", "(a b)", "((any) 7)", "(best (0 12) ())",
           "(() (()))", "(abcdefghijkl 123456789 0)"]


def nested(depth, inside=()):
    """Return a tuple that is so many tuples deep."""
    term = inside
    for _ in range(depth - 1):
        term = (term,)
    return term


def is_text(text):
    """Return whether the text is that of a term, by putting x for every term from the inside out."""
    parts = re.split("([() ])", text)
    if not all(part == "" or part in "() " or ATOM.fullmatch(part) for part in parts):
        return False
    left = "".join("x" if part and part not in "() " else part for part in parts)
    for _ in range(30):
        left = re.sub(r"\((x( x)*)?\)", "x", left)
    return left == "x"


def is_beginning(text):
    """Return whether the text can be made that of a term by putting something behind it."""
    tails = [word + ")" * many for word in ("", "a") for many in range(text.count("(") + 1)]
    return any(is_text(text + tail) for tail in tails)


def wrong_position(text):
    return max(end for end in range(len(text) + 1) if is_beginning(text[:end]))


class TestTexts(Case):
    def test_write_and_read(self):
        for term, text in TERMS:
            self.assertEqual(write_term(term), text)
            self.assertEqual(read_term(text), term)
            self.assertTrue(is_text(text))

    def test_kinds_of_parts(self):
        self.assertIs(type(read_term("7")), int)
        self.assertIs(type(read_term("seven")), str)
        self.assertIs(type(read_term("()")), tuple)

    def test_arguments_stay(self):
        term = ("best", (0, 12), ())
        write_term(term)
        self.assertEqual(term, ("best", (0, 12), ()))

    def test_thirty_deep(self):
        self.assertEqual(write_term(nested(30)), "(" * 30 + ")" * 30)
        self.assertEqual(read_term("(" * 30 + ")" * 30), nested(30))
        self.assertEqual(read_term("(" * 30 + "a 1" + ")" * 30), nested(30, ("a", 1)))

    def test_many_parts(self):
        term = tuple((index, "word") for index in range(6000))
        self.assertEqual(read_term(write_term(term)), term)


class TestWrongTexts(Case):
    def refused_at(self, text, position):
        error = self.refused(InvalidText, read_term, text)
        self.assertEqual(error.position, position, text)

    def test_named_edges(self):
        for text, position in [
            ("", 0), (" ", 0), (")", 0), ("(", 1), ("A", 0), ("-1", 0), ("_", 0),
            ("01", 1), ("00", 1), ("(0 01)", 4), ("a ", 1), ("a b", 1), (" a", 0), ("a)", 1), ("7)", 1),
            ("a1", 1), ("1a", 1), ("abc(", 3), ("()a", 2), ("()()", 2), ("() ", 2),
            ("abcdefghijklm", 12), ("(abcdefghijklm)", 13), ("1234567890", 9), ("(1234567890)", 10),
            ("(a", 2), ("(a ", 3), ("(a  b)", 3), ("( a)", 1), ("(a )", 3), ("((a)", 4), ("(a))", 3), ("(a)(b)", 3),
            ("(a\n)", 2), ("(a,b)", 2), ("(a" + chr(160) + "b)", 2), (chr(1635), 0), ("1" + chr(178), 1),
            (chr(228), 0), ("a" + chr(228), 1), ("(aB)", 2),
        ]:
            self.refused_at(text, position)
            self.assertEqual(wrong_position(text), position, text)

    def test_too_deep(self):
        self.refused_at("(" * 31 + ")" * 31, 30)
        self.refused_at("(" * 30, 30)
        self.refused_at("(a " * 30 + "(", 90)
        self.refused_at("(" * 500, 30)
        self.assertEqual(wrong_position("(" * 31), 30)

    def test_every_small_change(self):
        for sample in SAMPLES:
            for text in self.changed(sample):
                if is_text(text):
                    self.assertEqual(write_term(read_term(text)), text)
                else:
                    self.refused_at(text, wrong_position(text))

    def changed(self, text):
        """Yield the texts in which one character is removed, put in or replaced."""
        for at in range(len(text) + 1):
            yield text[:at] + text[at + 1:]
            for sign in "()az019 A-":
                yield text[:at] + sign + text[at:]
                yield text[:at] + sign + text[at + 1:]

    def test_several_changes(self):
        source = random.Random(5)
        for _ in range(3000):
            text = "".join(source.choice("((()) a0b1") for _ in range(source.randrange(12)))
            if is_text(text):
                self.assertEqual(write_term(read_term(text)), text)
            else:
                self.refused_at(text, wrong_position(text))


class TestWrongTerms(Case):
    def refused_with(self, term, path):
        error = self.refused(InvalidTerm, write_term, term)
        self.assertEqual(error.path, path, term)

    def test_wrong_words_and_numbers(self):
        for part in ["", "A", "abcdefghijklm", "a b", "a1", "-", "(", chr(228), -1, 1000000000, 10 ** 30,
                     None, 1.0, [], ["a"], {}, b"a", True, False]:
            self.refused_with(part, ())
            self.refused_with((part,), (0,))
            self.refused_with(("a", (0, (), part), "b"), (1, 2))

    def test_first_in_reading_order(self):
        self.refused_with(("a", ("b", -1), "C"), (1, 1))
        self.refused_with((("b", (None,), -1), None), (0, 1, 0))
        self.refused_with(((), None, None), (1,))

    def test_thirty_one_deep(self):
        self.refused_with(nested(31), (0,) * 30)
        self.refused_with(nested(31, ("A",)), (0,) * 30)
        self.refused_with(nested(40), (0,) * 30)
        self.refused_with(nested(30, ("A",)), (0,) * 30)
        self.refused_with((nested(30), "A"), (0,) * 30)
        self.refused_with((nested(29), "A"), (1,))
        self.refused_with(("A", nested(30)), (0,))
