"""What the tests share."""

import itertools
import unittest

SMALL_SIZES = [(options, outcomes) for outcomes in range(1, 5) for options in range(1, 9)
               if outcomes ** options <= 256]


def contexts(options, outcomes):
    """Return all contexts of a size in their order, without the help of the program."""
    return list(itertools.product(range(outcomes), repeat=options))


class Case(unittest.TestCase):
    """A test case that asks each question twice and checks refusals closely."""

    def asked(self, call, *args, **more):
        """Return what the call returns, and assert that it returns the same when it is asked again."""
        answer = call(*args, **more)
        again = call(*args, **more)
        self.assertEqual(answer, again)
        self.assertIs(type(answer), type(again))
        return answer

    def listed(self, call, *args, **more):
        """Return the list of what the generator yields, and assert that it yields the same once more."""
        first = list(call(*args, **more))
        self.assertEqual(list(call(*args, **more)), first)
        return first

    def refused(self, kind, call, *args, **more):
        """Assert that the call raises this very class, twice in the same way, and return the error."""
        errors = []
        for _ in range(2):
            with self.assertRaises(kind) as caught:
                call(*args, **more)
            self.assertIs(type(caught.exception), kind, (args, more))
            errors.append(caught.exception)
        self.assertEqual(vars(errors[0]), vars(errors[1]))
        return errors[1]
