"""Point 11: the operators of aims."""

import operator

from choosersrow.aims import Aim
from choosersrow.errors import InvalidAim, SizeMismatch
from tests.helpers import Case, contexts

TWO = [operator.or_, operator.and_, operator.sub]


def deep(many, options=3, outcomes=2):
    term = ("like", 1)
    for _ in range(many - 1):
        term = ("not", term)
    return Aim(term, options, outcomes)


class TestOperators(Case):
    def test_terms_and_sizes(self):
        one, other = Aim(("like", 1), 3, 2), Aim(("most",), 3, 2)
        for made, term in [(one | other, ("either", ("like", 1), ("most",))),
                           (one & other, ("both", ("like", 1), ("most",))),
                           (one - other, ("both", ("like", 1), ("not", ("most",)))),
                           (~one, ("not", ("like", 1)))]:
            self.assertIs(type(made), Aim)
            self.assertEqual((made.term, made.options, made.outcomes), (term, 3, 2))
        self.assertEqual((one.term, other.term), (("like", 1), ("most",)))

    def test_good(self):
        one, other = Aim(("like", 1), 3, 2), Aim(("most",), 3, 2)
        for context in contexts(3, 2):
            first, second = set(one.good(context)), set(other.good(context))
            self.assertEqual((one | other).good(context), tuple(sorted(first | second)))
            self.assertEqual((one & other).good(context), tuple(sorted(first & second)))
            self.assertEqual((one - other).good(context), tuple(sorted(first - second)))
            self.assertEqual((~one).good(context), tuple(sorted({0, 1, 2} - first)))

    def test_unlike_sizes(self):
        aim = Aim(("any",), 3, 2)
        for other in (Aim(("any",), 2, 2), Aim(("any",), 4, 2), Aim(("any",), 3, 1), Aim(("any",), 3, 3),
                      Aim(("any",), 2, 3), deep(6, 4, 2)):
            for call in TWO:
                self.refused(SizeMismatch, call, aim, other)
                self.refused(SizeMismatch, call, other, aim)

    def test_too_deep(self):
        low = deep(1)
        self.assertEqual((deep(5) | low).term, ("either", deep(5).term, ("like", 1)))
        self.assertEqual((low - deep(4)).term, ("both", ("like", 1), ("not", deep(4).term)))
        for call, first, second, path in [
            (operator.or_, deep(6), low, (1,) * 6), (operator.or_, low, deep(6), (2,) + (1,) * 5),
            (operator.and_, deep(6), deep(6), (1,) * 6), (operator.and_, low, deep(6), (2,) + (1,) * 5),
            (operator.sub, deep(6), low, (1,) * 6), (operator.sub, low, deep(5), (2,) + (1,) * 5),
            (operator.sub, low, deep(6), (2,) + (1,) * 5),
        ]:
            self.assertEqual(self.refused(InvalidAim, call, first, second).path, path)
        self.assertEqual(self.refused(InvalidAim, operator.invert, deep(6)).path, (1,) * 6)
        self.assertEqual((~deep(5)).term, deep(6).term)

    def test_large_sizes(self):
        one, other = Aim(("most",), 64, 4), Aim(("like", 63), 64, 4)
        context = (0,) * 30 + (1,) * 34
        self.assertEqual((one & other).good(context), tuple(range(30, 64)))
        self.assertEqual((one - other).good(context), ())
        self.assertEqual((~other).good(context), tuple(range(30)))
