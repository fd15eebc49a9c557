"""Point 6: choices of widths."""

import inspect
import itertools

from choosersrow.errors import OutOfRange
from choosersrow.walks import all_choices, choice_at, choice_index, count_choices
from tests.helpers import Case

HUGE = (10 ** 20, 1, 10 ** 20 + 7, 3, 10 ** 21)
SOME = [(), (1,), (3,), (2, 3), (3, 2), (1, 1, 1), (2, 1, 3, 2), (4, 4, 4)]
NONE = [(0,), (0, 3), (3, 0), (2, 0, 3), (0, 0), (10 ** 20, 0), (0, 10 ** 20)]


class TestChoices(Case):
    def test_all_ways_round(self):
        for widths in SOME:
            choices = list(itertools.product(*[range(width) for width in widths]))
            self.assertEqual(count_choices(widths), len(choices))
            self.assertEqual(list(all_choices(widths)), choices)
            for index, choice in enumerate(choices):
                self.assertEqual(choice_at(widths, index), choice)
                self.assertEqual(choice_index(widths, choice), index)

    def test_empty_widths(self):
        self.assertEqual(count_choices(()), 1)
        self.assertEqual(list(all_choices(())), [()])
        self.assertEqual(choice_at((), 0), ())
        self.assertEqual(choice_index((), ()), 0)

    def test_width_zero(self):
        for widths in NONE:
            self.assertEqual(count_choices(widths), 0)
            self.assertEqual(list(all_choices(widths)), [])
            for index in (-1, 0, 1):
                self.refused(OutOfRange, choice_at, widths, index)
            self.refused(OutOfRange, choice_index, widths, (0,) * len(widths))

    def test_huge_widths(self):
        many = 10 ** 20 * (10 ** 20 + 7) * 3 * 10 ** 21
        self.assertEqual(count_choices(HUGE), many)
        self.assertEqual(choice_at(HUGE, 0), (0, 0, 0, 0, 0))
        self.assertEqual(choice_at(HUGE, many - 1), tuple(width - 1 for width in HUGE))
        for index in (0, 1, 10 ** 21, many // 2, many // 3 + 12345, many - 1):
            self.assertEqual(choice_index(HUGE, choice_at(HUGE, index)), index)
        self.assertEqual(choice_at(HUGE, 10 ** 21), (0, 0, 0, 1, 0))
        self.assertEqual(choice_index(HUGE, (0, 0, 1, 0, 5)), 3 * 10 ** 21 + 5)

    def test_generator(self):
        self.assertTrue(inspect.isgeneratorfunction(all_choices))

    def test_many_widths(self):
        widths = (2,) * 1000
        self.assertEqual(count_choices(widths), 2 ** 1000)
        self.assertEqual(choice_at(widths, 2 ** 999), (1,) + (0,) * 999)
        self.assertEqual(choice_index(widths, (1,) * 1000), 2 ** 1000 - 1)

    def test_first_choices_of_huge_widths(self):
        first = list(itertools.islice(all_choices((10 ** 20, 2)), 5))
        self.assertEqual(first, [(0, 0), (0, 1), (1, 0), (1, 1), (2, 0)])

    def test_wrong_indexes(self):
        for widths in SOME + [HUGE]:
            many = count_choices(widths)
            for index in (-1, -many, many, many + 1, 10 ** 90):
                self.refused(OutOfRange, choice_at, widths, index)

    def test_wrong_choices(self):
        for widths in SOME + [HUGE]:
            last = tuple(width - 1 for width in widths)
            self.refused(OutOfRange, choice_index, widths, last + (0,))
            if widths:
                self.refused(OutOfRange, choice_index, widths, last[:-1])
            for at, width in enumerate(widths):
                for entry in (-1, width, width + 1):
                    self.refused(OutOfRange, choice_index, widths, last[:at] + (entry,) + last[at + 1:])

    def test_asking_again(self):
        self.assertEqual(list(all_choices((2, 2))), list(all_choices((2, 2))))
