"""Point 10: creating aims and its errors."""

from choosersrow.aims import Aim
from choosersrow.errors import InvalidAim, OutOfRange
from tests.helpers import SMALL_SIZES, Case

ROWS = ((0,), (), (0, 1), (1,))


def deep(many, inside=("any",)):
    """Return the aim with so many aims around it."""
    for _ in range(many):
        inside = ("not", inside)
    return inside


class TestWrongAims(Case):
    def wrong(self, term, path, options=2, outcomes=2):
        error = self.refused(InvalidAim, Aim, term, options, outcomes)
        self.assertEqual(error.path, path, term)

    def test_no_word(self):
        for term in [(), "any", 0, None, ["any"], ("anyone",), ("",), (0,), (("any",),), ("Any",), ("end", 0),
                     ("aim", 2, 2, ("any",)), ("node",), (None,), ([],)]:
            self.wrong(term, ())
            self.wrong(("either", ("any",), term), (2,))
            self.wrong(("recode", (0, 1), ("first", term)), (2, 1))

    def test_numbers_of_items(self):
        items = {"any": (), "most": (), "fewest": (), "fixed": (), "best": ((0, 1),), "second": ((0, 1),),
                 "like": (0,), "unlike": (0,), "among": ((0,),), "only": ((0,),), "table": (ROWS,),
                 "either": (("any",), ("any",)), "both": (("any",), ("any",)), "else": (("any",), ("any",)),
                 "not": (("any",),), "first": (("any",),), "recode": ((0, 1), ("any",)),
                 "reorder": ((0, 1), ("any",))}
        for word, right in items.items():
            Aim((word,) + right, 2, 2)
            self.wrong((word,) + right + (("any",),), ())
            self.wrong((word,) + right + (0,), ())
            if right:
                self.wrong((word,) + right[:-1], ())
                self.wrong((word,), ())

    def test_items_that_are_no_options(self):
        for word in ("like", "unlike"):
            Aim((word, 63), 64, 4)
            for item in (2, -1, 99, "a", (), (0,), None, True):
                self.wrong((word, item), (1,))
            self.wrong((word, 64), (1,), 64, 4)

    def test_items_that_are_no_tuples(self):
        for word in ("best", "second", "among", "only", "table"):
            for item in (0, "any", None, [0, 1]):
                self.wrong((word, item), (1,))
        for word in ("recode", "reorder"):
            for item in (0, "any", None, [0, 1]):
                self.wrong((word, item, ("any",)), (1,))

    def test_other_lengths(self):
        for word in ("best", "second"):
            for item in ((), (0,), (0, 1, 2), (0, 99, 2)):
                self.wrong((word, item), (1,))
                self.wrong(("not", (word, item)), (1, 1))
        for word in ("recode", "reorder"):
            for item in ((), (0,), (0, 1, 2), (9,)):
                self.wrong((word, item, ("any",)), (1,))
        for rows in ((), ROWS[:3], ROWS + ((),), ((9,),) * 3):
            self.wrong(("table", rows), (1,))

    def test_ranks(self):
        Aim(("best", (0, 9, 9, 0)), 5, 4)
        for word in ("best", "second"):
            for entry in (-1, 10, "a", (), None, False):
                self.wrong((word, (0, entry)), (1, 1))
                self.wrong((word, (entry, entry)), (1, 0))

    def test_codes(self):
        Aim(("recode", (1, 1), ("any",)), 5, 2)
        for entry in (-1, 2, "a", ()):
            self.wrong(("recode", (0, entry), ("any",)), (1, 1), 5)
            self.wrong(("recode", (entry, entry), 5), (1, 0), 5)
        self.wrong(("recode", (0, 1), 5), (2,))

    def test_places(self):
        Aim(("reorder", (2, 0, 1), ("any",)), 3, 2)
        for places, path in [((0, 1, 1), (1, 2)), ((0, 0, 3), (1, 1)), ((3, 0, 0), (1, 0)), ((0, 1, -1), (1, 2)),
                             ((0, "a", 0), (1, 1)), ((2, 1, 2), (1, 2)), ((1, 1, 1), (1, 1))]:
            self.wrong(("reorder", places, 5), path, 3)
        self.wrong(("reorder", (2, 0, 1), 5), (2,), 3)

    def test_ascending_tuples(self):
        for word, options, outcomes in [("among", 5, 3), ("only", 3, 2)]:
            for part in ((), (0,), (2,), (0, 1), (0, 2), (0, 1, 2)):
                Aim((word, part), options, outcomes)
            for part, path in [((3,), (1, 0)), ((-1,), (1, 0)), ((0, 0), (1, 1)), ((1, 0), (1, 1)),
                               ((0, 1, 1), (1, 2)), ((0, 2, 3), (1, 2)), ((0, 2, 1), (1, 2)), (("a",), (1, 0)),
                               ((0, ()), (1, 1)), ((2, -1, 0), (1, 1)), ((0, 1, 2, 2), (1, 3)),
                               ((0, 1, 2, 3), (1, 3)), ((False,), (1, 0))]:
                self.wrong((word, part), path, options, outcomes)

    def test_rows(self):
        Aim(("table", ROWS), 2, 2)
        for row, path in [(0, ()), ("a", ()), (None, ()), ([0], ()), ((2,), (0,)), ((0, 0), (1,)), ((1, 0), (1,)),
                          ((0, 2), (1,)), ((-1,), (0,)), (((),), (0,)), ((0, "a"), (1,))]:
            for index in range(4):
                self.wrong(("table", ROWS[:index] + (row,) + ROWS[index + 1:]), (1, index) + path)

    def test_table_size(self):
        for options, outcomes in SMALL_SIZES:
            rows = ((options - 1,),) * outcomes ** options
            Aim(("table", rows), options, outcomes)
            self.wrong(("table", rows + ((),)), (1,), options, outcomes)
            self.wrong(("table", rows[1:]), (1,), options, outcomes)
        for options, outcomes in [(9, 1), (9, 2), (64, 1), (6, 3), (5, 4), (64, 4)]:
            for rows in (((),) * min(outcomes ** options, 2000), (), 7):
                self.wrong(("table", rows), (), options, outcomes)
                self.wrong(("both", ("any",), ("table", rows)), (2,), options, outcomes)

    def test_compound_items(self):
        for word in ("either", "both", "else"):
            self.wrong((word, ("any",), 0), (2,))
            self.wrong((word, 0, 0), (1,))
            self.wrong((word, ("like", 2), ("like", 2)), (1, 1))
            self.wrong((word, ("like", 1), ("like", 2)), (2, 1))
        for word in ("not", "first"):
            self.wrong((word, "any"), (1,))
            self.wrong((word, ("best", (0, 10))), (1, 1, 1))

    def test_depth(self):
        Aim(deep(5), 2, 2)
        Aim(deep(5, ("table", ROWS)), 2, 2)
        self.wrong(deep(6), (1,) * 6)
        self.wrong(deep(6, ("like", 9)), (1,) * 6)
        self.wrong(deep(6, 0), (1,) * 6)
        self.wrong(deep(5, ("like", 9)), (1,) * 6)
        self.wrong(deep(5, ("best", (0, 10))), (1,) * 5 + (1, 1))
        self.wrong(deep(60), (1,) * 6)
        self.wrong(("both", deep(4), deep(5)), (2, 1, 1, 1, 1, 1))
        self.wrong(("recode", (0, 1), ("reorder", (1, 0), deep(4))), (2, 2, 1, 1, 1, 1))

    def test_several_wrong_parts(self):
        self.wrong(("either", ("like", 9), ("worst",), 3), ())
        self.wrong(("either", ("first", ("only", (1, 0))), ("worst",)), (1, 1, 1, 1))
        self.wrong(("reorder", (0, 2), deep(9)), (1, 1))
        self.wrong(("recode", (2, 0), ("like", 5)), (1, 0))
        self.wrong(("both", deep(6), 0), (1,) * 6)
        self.wrong(("both", ("table", ROWS[:1] + (0, (7,), (7,))), 0), (1, 1, 1))

    def test_sizes(self):
        for options in (1, 2, 63, 64):
            for outcomes in (1, 2, 3, 4):
                self.assertEqual(Aim(("any",), options, outcomes).options, options)
        for options, outcomes in [(0, 2), (65, 2), (-1, 2), (2, 0), (2, 5), (2, -1), (0, 0), (65, 5), (10 ** 9, 4)]:
            for term in [("any",), ("worst",), (), ("table", ()), deep(9), ("like", 70)]:
                self.refused(OutOfRange, Aim, term, options, outcomes)
