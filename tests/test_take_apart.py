"""Point 38: taking choosers apart."""

import itertools
import random

from choosersrow.choosers import Chooser
from choosersrow.errors import OutOfRange, SizeMismatch
from choosersrow.turns import put_behind, take_apart
from tests.helpers import Case
from tests.test_choosers import drawn_chooser


def all_choosers(options, outcomes):
    many = outcomes ** options
    return [Chooser(options, outcomes, row) for row in itertools.product(range(options), repeat=many)]


def first_pairs(sizes, outcomes):
    """Return for each row that can be put together the rows of the first of its pairs, found by trying all pairs."""
    found = {}
    for first in all_choosers(len(sizes), outcomes):
        for nexts in itertools.product(*[all_choosers(size, outcomes) for size in sizes]):
            row = put_behind(first, nexts).row
            rows = tuple(chooser.row for chooser in nexts)
            told, least = found.setdefault(row, (first.row, rows))
            assert told == first.row
            found[row] = (told, min(least, rows))
    return found


class TestTakeApart(Case):
    def check_shape(self, apart, sizes, outcomes):
        first, nexts = apart
        self.assertIs(type(apart), tuple)
        self.assertIs(type(first), Chooser)
        self.assertIs(type(nexts), tuple)
        self.assertEqual((first.options, first.outcomes), (len(sizes), outcomes))
        self.assertEqual([(chooser.options, chooser.outcomes) for chooser in nexts],
                         [(size, outcomes) for size in sizes])

    def test_by_trying_all_pairs(self):
        for sizes, outcomes in [((1,), 2), ((2,), 2), ((1, 1), 2), ((2, 1), 2), ((1, 2), 2), ((2, 2), 2), ((1, 1, 1), 2),
                                ((3, 2), 1), ((1, 2, 2), 1), ((1, 1), 3)]:
            found = first_pairs(sizes, outcomes)
            for row, rows in found.items():
                chooser = Chooser(sum(sizes), outcomes, row)
                apart = take_apart(chooser, sizes)
                self.check_shape(apart, sizes, outcomes)
                self.assertEqual((apart[0].row, tuple(part.row for part in apart[1])), rows)
                self.assertEqual(put_behind(*apart).row, row)
            if outcomes ** sum(sizes) <= 8:
                every = all_choosers(sum(sizes), outcomes)
                for chooser in every[::max(1, len(every) // 700)]:
                    if chooser.row not in found:
                        self.assertIsNone(take_apart(chooser, sizes))

    def test_several_pairs_occur(self):
        for sizes in [(2, 1), (2, 2)]:
            many = len(all_choosers(2, 2)) * len(all_choosers(sizes[0], 2)) * len(all_choosers(sizes[1], 2))
            self.assertLess(len(first_pairs(sizes, 2)), many)

    def test_drawn(self):
        source = random.Random(70)
        for sizes, outcomes in [((3, 2), 2), ((2, 3, 3), 2), ((4, 4), 2), ((1, 7), 2), ((7, 1), 2), ((2, 2, 2, 2), 2),
                                ((1,) * 8, 2), ((8,), 2), ((2, 3), 3), ((5,), 3), ((1, 1, 1, 1, 1), 3), ((2, 2), 4),
                                ((1, 3), 4), ((3, 1), 4), ((4,), 4), ((3, 5), 1)]:
            for _ in range(4):
                first = drawn_chooser(source, len(sizes), outcomes)
                nexts = tuple(drawn_chooser(source, size, outcomes) for size in sizes)
                chooser = put_behind(first, nexts)
                apart = take_apart(chooser, sizes)
                self.check_shape(apart, sizes, outcomes)
                self.assertEqual(apart[0].row, first.row)
                self.assertEqual(put_behind(*apart).row, chooser.row)
                self.assertLessEqual([part.row for part in apart[1]], [part.row for part in nexts])

    def test_changed_in_one_context(self):
        source = random.Random(71)
        sizes = (2, 1)
        found = first_pairs(sizes, 2)
        for row in source.sample(sorted(found), 40):
            for index in range(8):
                for option in range(3):
                    changed = row[:index] + (option,) + row[index + 1:]
                    apart = take_apart(Chooser(3, 2, changed), sizes)
                    self.assertEqual(apart is not None, changed in found)

    def test_unseen_segments(self):
        chooser = Chooser.constant(4, 2, 3)
        first, nexts = take_apart(chooser, (2, 2))
        self.assertEqual((first.row, [part.row for part in nexts]), ((1, 1, 1, 1), [(0, 0, 0, 0), (1, 1, 1, 1)]))
        # No option of the segment (0, 1) is ever picked, but only with the outcome of its option 1 does the first
        # chooser leave the segment alone.
        first = Chooser(2, 2, (0, 0, 1, 1))
        nexts = (Chooser(2, 2, (0, 1, 0, 0)), Chooser(1, 2, (0, 0)))
        apart = take_apart(put_behind(first, nexts), (2, 1))
        self.assertEqual([part.row for part in apart[1]], [(0, 1, 0, 0), (0, 0)])

    def test_one_size(self):
        for options, outcomes in [(1, 1), (3, 2), (8, 2), (4, 4)]:
            chooser = drawn_chooser(random.Random(72), options, outcomes)
            first, nexts = take_apart(chooser, (options,))
            self.assertEqual((first.row, nexts[0].row), ((0,) * outcomes, chooser.row))

    def test_sizes_of_one(self):
        for options, outcomes in [(1, 1), (3, 2), (8, 2), (4, 4)]:
            chooser = drawn_chooser(random.Random(73), options, outcomes)
            first, nexts = take_apart(chooser, (1,) * options)
            self.assertEqual((first.row, [part.row for part in nexts]), (chooser.row, [(0,) * outcomes] * options))

    def test_refusals(self):
        chooser = Chooser.constant(3, 2, 0)
        for sizes in [(0,), (3, 0), (0, 3), (-1, 4), (4, -1), (2, 1, 0), (0, 0), (-3,), (5, 0)]:
            self.refused(OutOfRange, take_apart, chooser, sizes)
        for sizes in [(), (1,), (2,), (4,), (1, 1), (2, 2), (1, 1, 1, 1), (10 ** 20,)]:
            self.refused(SizeMismatch, take_apart, chooser, sizes)

    def test_asking_again(self):
        chooser = Chooser(3, 2, (0, 0, 1, 1, 0, 0, 0, 0))
        answers = [take_apart(chooser, (2, 1)) for _ in range(2)]
        told = [None if apart is None else (apart[0].row, [part.row for part in apart[1]]) for apart in answers]
        self.assertEqual(told[0], told[1])
        self.assertEqual(chooser.row, (0, 0, 1, 1, 0, 0, 0, 0))
