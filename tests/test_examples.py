"""The examples that the document shows under its headings, as they stand there."""

import doctest
import unittest

EXAMPLES = '''
>>> from choosersrow.terms import read_term, write_term
>>> read_term("(best (0 12) ())")
('best', (0, 12), ())
>>> write_term((("any",), 7))
'((any) 7)'

>>> from choosersrow.walks import choice_at, choice_index
>>> choice_at((2, 3), 4)
(1, 1)
>>> choice_index((2, 3), (1, 1))
4

>>> from choosersrow.aims import Aim
>>> Aim(("best", (0, 5, 5)), 4, 3).good((1, 0, 2, 0))
(0, 2)
>>> (~Aim(("most",), 3, 2)).good((1, 0, 1))
(1,)

>>> from choosersrow.choosers import Chooser
>>> Chooser.first_good(Aim(("best", (0, 1)), 2, 2)).row
(0, 1, 0, 0)
'''


class TestExamples(unittest.TestCase):
    def test_examples(self):
        test = doctest.DocTestParser().get_doctest(EXAMPLES, {}, "examples", "examples", 0)
        told = []
        result = doctest.DocTestRunner(verbose=False).run(test, out=told.append)
        self.assertGreater(result.attempted, 0)
        self.assertEqual(result.failed, 0, "".join(told))
