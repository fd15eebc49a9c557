"""Points 92 and 94: counting, numbering and finding heads."""

import math
import random

from choosersrow.errors import OutOfRange
from choosersrow.queries import Query
from choosersrow.settling import count_heads, head_at, head_index, query_reach
from tests.helpers import Case
from tests.queryoracles import drawn_queries, full_term, told, told_heads, width

ZERO, ONE = ("tell", 0), ("tell", 1)
# Eight places that are needed, and very many heads.
FAR = Query(full_term((3, 17, 30, 44, 58, 71, 86, 99), 2, lambda row: int(sum(row) % 3 == 0)), (2,), 2)
WIDE = Query(("look", 99, ZERO, ("look", 50, ONE, ZERO, ONE, ("tell", 2)), ONE, ONE), (4,), 3)


class TestHeads(Case):
    def test_small_queries(self):
        for query in drawn_queries(30, 150):
            heads = told_heads(query)
            self.assertEqual(self.asked(count_heads, query), tuple(len(found) for found in heads))
            for outcome, found in enumerate(heads):
                for index, head in enumerate(found):
                    self.assertEqual(head_at(query, outcome, index), head)
                    self.assertEqual(head_index(query, head), index)

    def test_reach_zero(self):
        for term in (("tell", 2), ("look", 9, ("tell", 2), ("tell", 2))):
            query = Query(term, (2,), 4)
            self.assertEqual(self.asked(count_heads, query), (0, 0, 1, 0))
            self.assertEqual(self.asked(head_at, query, 2, 0), ())
            self.assertEqual(self.asked(head_index, query, ()), 0)
            for outcome, index in [(2, 1), (2, -1), (0, 0), (1, 0), (3, 0)]:
                self.refused(OutOfRange, head_at, query, outcome, index)
            for head in [(0,), (1,), (0, 0)]:
                self.refused(OutOfRange, head_index, query, head)

    def test_by_hand(self):
        query = Query(("look", 1, ZERO, ("look", 0, ONE, ZERO)), (2,), 2)
        self.assertEqual(count_heads(query), (3, 1))
        self.assertEqual([head_at(query, 0, index) for index in range(3)], [(0, 0), (1, 0), (1, 1)])
        self.assertEqual(head_at(query, 1, 0), (0, 1))
        self.assertEqual([head_index(query, head) for head in [(0, 0), (0, 1), (1, 0), (1, 1)]], [0, 0, 1, 2])

    def test_very_many_heads(self):
        self.assertEqual(sum(count_heads(FAR)), 2 ** 100)
        self.assertEqual(count_heads(FAR)[1], 2 ** 92 * sum(math.comb(8, k) for k in (0, 3, 6)))
        self.assertEqual(sum(count_heads(WIDE)), 4 ** 100)
        self.assertEqual(count_heads(WIDE), (4 ** 99 + 4 ** 98, 2 * 4 ** 99 + 2 * 4 ** 98, 4 ** 98))
        source = random.Random(31)
        for query in (FAR, WIDE):
            for outcome, many in enumerate(count_heads(query)):
                indexes = sorted([0, 1, many // 2, many - 1] + [source.randrange(many) for _ in range(20)])
                heads = [head_at(query, outcome, index) for index in indexes]
                self.assertEqual(heads, sorted(heads))
                for index, head in zip(indexes, heads):
                    self.assertEqual(len(head), query_reach(query))
                    self.assertTrue(all(0 <= entry < width(query.widths, place) for place, entry in enumerate(head)))
                    self.assertEqual(told(query.term, head), outcome)
                    self.assertEqual(head_index(query, head), index)

    def test_neighbours_of_very_many_heads(self):
        for query in (FAR, WIDE):
            for outcome, many in enumerate(count_heads(query)):
                for index in (0, many // 3, many // 7 * 5, many - 2):
                    one, other = head_at(query, outcome, index), head_at(query, outcome, index + 1)
                    self.assertLess(one, other)
                    # Nothing between the two has the outcome.
                    between = counted_up(one, query.widths)
                    for _ in range(6):
                        if between == other:
                            break
                        self.assertNotEqual(told(query.term, between), outcome)
                        between = counted_up(between, query.widths)

    def test_first_and_last_head(self):
        self.assertEqual(head_at(WIDE, 2, 0), (0,) * 50 + (3,) + (0,) * 48 + (1,))
        self.assertEqual(head_at(WIDE, 2, 4 ** 98 - 1), (3,) * 99 + (1,))
        self.assertEqual(head_at(WIDE, 1, count_heads(WIDE)[1] - 1), (3,) * 100)

    def test_wrong_indexes(self):
        for query in drawn_queries(32, 30) + [FAR, WIDE]:
            for outcome, many in enumerate(count_heads(query)):
                for index in (-1, -many - 1, many, many + 1, 10 ** 80):
                    self.refused(OutOfRange, head_at, query, outcome, index)
            for outcome in (-1, query.outcomes, 10 ** 20):
                for index in (-1, 0):
                    self.refused(OutOfRange, head_at, query, outcome, index)

    def test_wrong_heads(self):
        for query in drawn_queries(33, 30) + [FAR, WIDE]:
            reach = query_reach(query)
            head = tuple(width(query.widths, place) - 1 for place in range(reach))
            self.refused(OutOfRange, head_index, query, head + (0,))
            if reach:
                self.refused(OutOfRange, head_index, query, head[:-1])
                self.refused(OutOfRange, head_index, query, ())
            for place in range(reach):
                for entry in (-1, head[place] + 1, 10 ** 20):
                    self.refused(OutOfRange, head_index, query, head[:place] + (entry,) + head[place + 1:])


def counted_up(head, widths):
    """Return the head that comes next."""
    place = len(head) - 1
    while head[place] == width(widths, place) - 1:
        place -= 1
    return head[:place] + (head[place] + 1,) + (0,) * (len(head) - place - 1)
