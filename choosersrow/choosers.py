"""Choosers: one option in each context."""

from choosersrow.errors import InvalidChooser, InvalidContext, InvalidTerm, OutOfRange, SizeMismatch, TooLarge
from choosersrow.sizes import all_contexts, context_index, count_contexts, is_context, is_small, segments_of
from choosersrow.terms import is_below, read_headed, write_term

MOST_EXPONENT = 8


def wrong_index(options, outcomes, row):
    """Return the first index at which the row is not that of a chooser of the small size, or None."""
    many = count_contexts(options, outcomes)
    for index, option in enumerate(row[:many]):
        if not is_below(option, options):
            return index
    return None if len(row) == many else min(len(row), many)


def row_behind(first, nexts):
    """Return the row of the chooser that has each of the other choosers behind one option of the first."""
    sizes = [chooser.options for chooser in nexts]
    contexts = all_contexts(sum(sizes), first.outcomes)
    return tuple([option_behind(first, nexts, segments_of(sizes, context)) for context in contexts])


def option_behind(first, nexts, segments):
    """Return the flat option at which the first chooser and one behind it come out, given their segments."""
    answers = segment_answers(nexts, segments)
    option = picked_option(first, answered_context(segments, answers))
    return sum([chooser.options for chooser in nexts[:option]]) + answers[option]


def segment_answers(choosers, segments):
    """Return for each chooser its option in its segment."""
    return tuple([picked_option(chooser, segment) for chooser, segment in zip(choosers, segments)])


def answered_context(segments, answers):
    """Return the context of the outcomes of one answer in each segment."""
    return tuple([segment[answer] for segment, answer in zip(segments, answers)])


def picked_option(chooser, context):
    """Return the option of the chooser in a context of its size."""
    return chooser.row[context_index(context, chooser.outcomes)]


class Chooser:
    """A chooser of a small size."""

    def __init__(self, options, outcomes, row):
        if not is_small(options, outcomes):
            raise OutOfRange("the size of a chooser is small")
        index = wrong_index(options, outcomes, row)
        if index is not None:
            raise InvalidChooser(index)
        self.options = options
        self.outcomes = outcomes
        self.row = row

    def __call__(self, context):
        if not is_context(context, self.options, self.outcomes):
            raise InvalidContext("a context is a tuple of one outcome for each option")
        return picked_option(self, context)

    def __mul__(self, other):
        if self.outcomes != other.outcomes:
            raise SizeMismatch("the numbers of outcomes differ")
        options = self.options * other.options
        if not is_small(options, self.outcomes):
            raise TooLarge("the size of the product is not small")
        return Chooser(options, self.outcomes, row_behind(self, (other,) * self.options))

    def __pow__(self, other):
        if not 1 <= other <= MOST_EXPONENT:
            raise OutOfRange("the exponent is from 1 to 8")
        power = self
        for _ in range(other - 1):
            power = self * power
        return power

    def text(self):
        """Return the text of the chooser."""
        return write_term(("chooser", self.options, self.outcomes, self.row))

    @staticmethod
    def read(text):
        """Return the chooser with the text."""
        term = read_headed(text, "chooser", 4, 2)
        if not isinstance(term[3], tuple):
            raise InvalidTerm(())
        return Chooser(term[1], term[2], term[3])

    @staticmethod
    def constant(options, outcomes, option):
        """Return the chooser of the size that picks the option in each context."""
        if not is_small(options, outcomes) or not is_below(option, options):
            raise OutOfRange("the size of a chooser is small, and the option is one of it")
        return Chooser(options, outcomes, (option,) * count_contexts(options, outcomes))

    @staticmethod
    def first_good(aim):
        """Return the chooser that picks the least good option in each context, or 0 where none is good."""
        if not is_small(aim.options, aim.outcomes):
            raise OutOfRange("the size of a chooser is small")
        rows = [aim.good(context) for context in all_contexts(aim.options, aim.outcomes)]
        return Chooser(aim.options, aim.outcomes, tuple([row[0] if row else 0 for row in rows]))
