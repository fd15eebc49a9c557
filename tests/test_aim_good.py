"""Points 7 to 9 and 11: what is good, and what is no context."""

import random

from choosersrow.aims import Aim
from choosersrow.errors import InvalidContext
from tests.helpers import SMALL_SIZES, Case, contexts
from tests.oracles import drawn_part, drawn_term, good_options

WORDS = ["any", "best", "second", "most", "fewest", "fixed", "like", "unlike", "among", "only", "table",
         "either", "both", "else", "not", "first", "recode", "reorder"]
GOOD = [
    (("any",), 3, 2, (0, 1, 0), (0, 1, 2)),
    (("best", (0, 5, 5)), 4, 3, (1, 0, 2, 0), (0, 2)),
    (("best", (9, 0)), 3, 2, (1, 0, 1), (1,)),
    (("best", (9, 0)), 3, 2, (1, 1, 1), (0, 1, 2)),
    (("best", (4, 4)), 3, 2, (1, 0, 1), (0, 1, 2)),
    (("second", (5, 3, 5)), 3, 3, (0, 1, 2), (1,)),
    (("second", (5, 3, 5)), 3, 3, (0, 2, 0), (0, 1, 2)),
    (("second", (1, 2, 9, 9)), 4, 4, (3, 1, 0, 2), (1,)),
    (("second", (1, 2, 2, 9)), 4, 4, (3, 1, 0, 2), (1, 3)),
    (("second", (1, 2, 3, 9)), 4, 4, (2, 2, 2, 2), (0, 1, 2, 3)),
    (("most",), 5, 3, (0, 1, 0, 1, 2), (0, 1, 2, 3)),
    (("most",), 4, 3, (2, 1, 2, 0), (0, 2)),
    (("most",), 3, 3, (2, 1, 0), (0, 1, 2)),
    (("fewest",), 5, 3, (0, 1, 0, 1, 2), (4,)),
    (("fewest",), 4, 3, (2, 1, 2, 0), (1, 3)),
    (("fewest",), 4, 3, (2, 2, 2, 2), (0, 1, 2, 3)),
    (("fixed",), 4, 3, (0, 2, 2, 0), (0, 2)),
    (("fixed",), 2, 2, (1, 0), ()),
    (("fixed",), 6, 4, (0, 1, 2, 3, 0, 0), (0, 1, 2, 3)),
    (("like", 2), 4, 3, (1, 0, 1, 2), (0, 2)),
    (("unlike", 2), 4, 3, (1, 0, 1, 2), (1, 3)),
    (("unlike", 0), 3, 2, (1, 1, 1), ()),
    (("among", ()), 2, 2, (0, 1), ()),
    (("among", (0, 2)), 4, 3, (2, 1, 0, 1), (0, 2)),
    (("only", ()), 2, 2, (0, 1), ()),
    (("only", (1, 3)), 4, 2, (0, 0, 0, 0), (1, 3)),
    (("table", ((0,), (), (0, 1), (1,))), 2, 2, (0, 1), ()),
    (("table", ((0,), (), (0, 1), (1,))), 2, 2, (1, 0), (0, 1)),
    (("table", ((0,), (), (0, 1), (1,))), 2, 2, (1, 1), (1,)),
    (("either", ("only", (1, 3)), ("like", 0)), 4, 2, (0, 0, 1, 1), (0, 1, 3)),
    (("both", ("only", (1, 3)), ("like", 0)), 4, 2, (0, 0, 1, 1), (1,)),
    (("else", ("among", (2,)), ("only", (1,))), 3, 3, (0, 0, 2), (2,)),
    (("else", ("among", (2,)), ("only", (1,))), 3, 3, (0, 0, 1), (1,)),
    (("else", ("among", (2,)), ("only", ())), 3, 3, (0, 0, 1), ()),
    (("not", ("like", 0)), 3, 2, (1, 0, 1), (1,)),
    (("first", ("like", 2)), 3, 2, (0, 1, 1), (1,)),
    (("first", ("only", ())), 3, 2, (0, 1, 1), ()),
    (("recode", (1, 1, 0), ("best", (0, 1, 2))), 3, 3, (2, 0, 1), (1, 2)),
    (("recode", (1, 2, 0), ("fixed",)), 3, 3, (2, 0, 1), (0, 1, 2)),
    (("reorder", (1, 2, 0), ("only", (0,))), 3, 2, (0, 0, 0), (2,)),
    (("reorder", (1, 2, 0), ("fixed",)), 3, 3, (0, 1, 2), ()),
    (("reorder", (1, 2, 0), ("fixed",)), 3, 3, (1, 2, 0), (0, 1, 2)),
    (("reorder", (1, 2, 0), ("like", 0)), 3, 2, (0, 1, 1), (1, 2)),
    (("reorder", (2, 0, 1), ("table", ((0,), (1,), (2,), (), (0, 1), (0, 2), (1, 2), (0, 1, 2)))),
     3, 2, (1, 0, 0), (2,)),
    (("reorder", (2, 0, 1), ("table", ((0,), (1,), (2,), (), (0, 1), (0, 2), (1, 2), (0, 1, 2)))),
     3, 2, (0, 1, 1), (0, 2)),
]


class TestGood(Case):
    def test_by_hand(self):
        for term, options, outcomes, context, good in GOOD:
            self.assertEqual(good_options(term, context, outcomes), good, term)
            self.assertEqual(Aim(term, options, outcomes).good(context), good, (term, context))

    def test_every_word_is_tried(self):
        self.assertEqual(sorted({term[0] for term, *_ in GOOD}), sorted(WORDS))

    def test_attributes(self):
        aim = Aim(("like", 1), 3, 2)
        self.assertEqual((aim.term, aim.options, aim.outcomes), (("like", 1), 3, 2))

    def test_every_word_in_all_small_sizes(self):
        source = random.Random(8)
        for options, outcomes in SMALL_SIZES:
            missing = set(WORDS)
            while missing:
                term = drawn_term(source, options, outcomes, 2)
                missing.discard(term[0])
                aim = Aim(term, options, outcomes)
                for context in contexts(options, outcomes):
                    self.assertEqual(aim.good(context), good_options(term, context, outcomes), (term, context))

    def test_large_sizes(self):
        source = random.Random(9)
        for options in (9, 33, 63, 64):
            for outcomes in (1, 2, 3, 4):
                missing = set(WORDS) - {"table"}
                while missing:
                    term = drawn_term(source, options, outcomes, 3)
                    missing.discard(term[0])
                    aim = Aim(term, options, outcomes)
                    for limit in range(1, outcomes + 1):
                        context = tuple(source.randrange(limit) for _ in range(options))
                        self.assertEqual(aim.good(context), good_options(term, context, outcomes))

    def test_deep_aims(self):
        source = random.Random(10)
        for _ in range(150):
            options, outcomes = source.choice(SMALL_SIZES)
            term = drawn_term(source, options, outcomes, 6)
            aim = Aim(term, options, outcomes)
            for context in source.sample(contexts(options, outcomes), min(5, outcomes ** options)):
                self.assertEqual(aim.good(context), good_options(term, context, outcomes), (term, context))

    def test_table_in_all_small_sizes(self):
        source = random.Random(11)
        for options, outcomes in SMALL_SIZES:
            rows = tuple(drawn_part(source, options) for _ in contexts(options, outcomes))
            aim = Aim(("table", rows), options, outcomes)
            self.assertEqual(tuple(aim.good(context) for context in contexts(options, outcomes)), rows)

    def test_asking_again(self):
        aim = Aim(("else", ("fixed",), ("most",)), 3, 3)
        self.assertEqual([aim.good((2, 1, 0)) for _ in range(3)], [(1,)] * 3)
        self.assertEqual([aim.good((2, 0, 0)) for _ in range(3)], [(1, 2)] * 3)
        self.assertEqual(aim.term, ("else", ("fixed",), ("most",)))


class TestNoContext(Case):
    def test_no_context(self):
        aim = Aim(("any",), 3, 2)
        for context in [(), (0,), (0, 1), (0, 1, 0, 1), (0, 1, 2), (2, 1, 0), (0, -1, 0), (0, 1, 10 ** 20),
                        [0, 1, 0], "010", None, 0, {0: 0, 1: 1, 2: 0}, (0, 1, "a"), (0, (), 1), (0, None, 1),
                        (0, 1.0, 1), (True, 0, 0), (0, False, 0)]:
            self.refused(InvalidContext, aim.good, context)

    def test_large_sizes(self):
        aim = Aim(("most",), 64, 4)
        self.refused(InvalidContext, aim.good, (0,) * 63)
        self.refused(InvalidContext, aim.good, (0,) * 65)
        self.refused(InvalidContext, aim.good, (0,) * 63 + (4,))
        self.assertEqual(aim.good((0,) * 63 + (3,)), tuple(range(63)))
