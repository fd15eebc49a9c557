"""Aims: which options are good in each context."""

from choosersrow.errors import InvalidAim, InvalidContext, OutOfRange
from choosersrow.sizes import context_index, count_contexts, is_context, is_size, is_small, require_same_size
from choosersrow.terms import is_below, read_headed, write_term

DEEPEST_AIM = 6
RANKS_END = 10

# What stands behind each word. The names are those that wrong_item tells apart.
SHAPES = {
    "any": (),
    "best": ("ranks",),
    "second": ("ranks",),
    "most": (),
    "fewest": (),
    "fixed": (),
    "like": ("option",),
    "unlike": ("option",),
    "among": ("outcomes",),
    "only": ("options",),
    "table": ("rows",),
    "either": ("aim", "aim"),
    "both": ("aim", "aim"),
    "else": ("aim", "aim"),
    "not": ("aim",),
    "first": ("aim",),
    "recode": ("codes", "aim"),
    "reorder": ("places", "aim"),
}


def has_shape(term):
    """Return whether the term is a tuple of one of the words and as many items as belong to it."""
    if not isinstance(term, tuple) or len(term) == 0:
        return False
    if not isinstance(term[0], str) or term[0] not in SHAPES:
        return False
    return len(term) == len(SHAPES[term[0]]) + 1


def wrong_aim(term, options, outcomes, depth):
    """Return the path of the first wrong part of an aim, which is so many aims deep, or None."""
    if not has_shape(term) or depth > DEEPEST_AIM:
        return ()
    if term[0] == "table" and not is_small(options, outcomes):
        return ()
    for place, kind in enumerate(SHAPES[term[0]], start=1):
        path = wrong_item(kind, term[place], options, outcomes, depth)
        if path is not None:
            return (place,) + path
    return None


def wrong_item(kind, item, options, outcomes, depth):
    """Return the path of the first wrong part of an item of an aim, or None."""
    if kind == "aim":
        return wrong_aim(item, options, outcomes, depth + 1)
    if kind == "option":
        return None if is_below(item, options) else ()
    if kind == "ranks":
        return wrong_numbers(item, outcomes, RANKS_END)
    if kind == "codes":
        return wrong_numbers(item, outcomes, outcomes)
    if kind == "places":
        return wrong_places(item, options)
    if kind == "outcomes":
        return wrong_ascending(item, outcomes)
    if kind == "options":
        return wrong_ascending(item, options)
    return wrong_rows(item, options, outcomes)


def wrong_numbers(item, length, limit):
    """Return the path of the first wrong part of a tuple of so many numbers below the limit, or None."""
    if not isinstance(item, tuple) or len(item) != length:
        return ()
    for index, entry in enumerate(item):
        if not is_below(entry, limit):
            return (index,)
    return None


def wrong_places(item, options):
    """Return the path of the first wrong part of a tuple with each option exactly once, or None."""
    if not isinstance(item, tuple) or len(item) != options:
        return ()
    for index, entry in enumerate(item):
        if not is_below(entry, options) or entry in item[:index]:
            return (index,)
    return None


def wrong_ascending(item, limit):
    """Return the path of the first wrong part of an ascending tuple of numbers below the limit, or None."""
    if not isinstance(item, tuple):
        return ()
    least = 0
    for index, entry in enumerate(item):
        if not is_below(entry, limit) or entry < least:
            return (index,)
        least = entry + 1
    return None


def wrong_rows(item, options, outcomes):
    """Return the path of the first wrong part of the rows of a table, or None."""
    if not isinstance(item, tuple) or len(item) != count_contexts(options, outcomes):
        return ()
    for index, row in enumerate(item):
        path = wrong_ascending(row, options)
        if path is not None:
            return (index,) + path
    return None


# The rules take the same arguments, whether they need them or not, so that good_flags can call any of them.
# Each returns a list that has for each option of the context, True or False, whether it is good.
def any_flags(term, context, outcomes):
    return [True] * len(context)


def best_flags(term, context, outcomes):
    ranks = [term[1][outcome] for outcome in context]
    greatest = max(ranks)
    return [rank == greatest for rank in ranks]


def second_flags(term, context, outcomes):
    ranks = [term[1][outcome] for outcome in context]
    levels = sorted(set(ranks))
    if len(levels) == 1:
        return [True] * len(context)
    return [rank == levels[-2] for rank in ranks]


def most_flags(term, context, outcomes):
    counts = [context.count(outcome) for outcome in context]
    greatest = max(counts)
    return [count == greatest for count in counts]


def fewest_flags(term, context, outcomes):
    counts = [context.count(outcome) for outcome in context]
    least = min(counts)
    return [count == least for count in counts]


def fixed_flags(term, context, outcomes):
    return [outcome == option for option, outcome in enumerate(context)]


def like_flags(term, context, outcomes):
    return [outcome == context[term[1]] for outcome in context]


def unlike_flags(term, context, outcomes):
    return [outcome != context[term[1]] for outcome in context]


def among_flags(term, context, outcomes):
    return [outcome in term[1] for outcome in context]


def only_flags(term, context, outcomes):
    return [option in term[1] for option in range(len(context))]


def table_flags(term, context, outcomes):
    row = term[1][context_index(context, outcomes)]
    return [option in row for option in range(len(context))]


def either_flags(term, context, outcomes):
    first = good_flags(term[1], context, outcomes)
    second = good_flags(term[2], context, outcomes)
    return [one or other for one, other in zip(first, second)]


def both_flags(term, context, outcomes):
    first = good_flags(term[1], context, outcomes)
    second = good_flags(term[2], context, outcomes)
    return [one and other for one, other in zip(first, second)]


def else_flags(term, context, outcomes):
    flags = good_flags(term[1], context, outcomes)
    return flags if True in flags else good_flags(term[2], context, outcomes)


def not_flags(term, context, outcomes):
    return [not flag for flag in good_flags(term[1], context, outcomes)]


def first_flags(term, context, outcomes):
    flags = good_flags(term[1], context, outcomes)
    least = flags.index(True) if True in flags else len(flags)
    return [option == least for option in range(len(flags))]


def recode_flags(term, context, outcomes):
    return good_flags(term[2], tuple([term[1][outcome] for outcome in context]), outcomes)


def reorder_flags(term, context, outcomes):
    places = term[1]
    moved = list(context)
    for place, outcome in zip(places, context):
        moved[place] = outcome
    flags = good_flags(term[2], tuple(moved), outcomes)
    return [flags[place] for place in places]


RULES = {
    "any": any_flags,
    "best": best_flags,
    "second": second_flags,
    "most": most_flags,
    "fewest": fewest_flags,
    "fixed": fixed_flags,
    "like": like_flags,
    "unlike": unlike_flags,
    "among": among_flags,
    "only": only_flags,
    "table": table_flags,
    "either": either_flags,
    "both": both_flags,
    "else": else_flags,
    "not": not_flags,
    "first": first_flags,
    "recode": recode_flags,
    "reorder": reorder_flags,
}


def good_flags(term, context, outcomes):
    """Return for each option of the context, True or False, whether it is good for the aim with the term."""
    rule = RULES[term[0]]
    return rule(term, context, outcomes)


class Aim:
    """An aim of a size."""

    def __init__(self, term, options, outcomes):
        if not is_size(options, outcomes):
            raise OutOfRange("an aim has 1 to 64 options and 1 to 4 outcomes")
        path = wrong_aim(term, options, outcomes, 1)
        if path is not None:
            raise InvalidAim(path)
        self.term = term
        self.options = options
        self.outcomes = outcomes

    def good(self, context):
        """Return the good options of the context in ascending order."""
        if not is_context(context, self.options, self.outcomes):
            raise InvalidContext("a context is a tuple of one outcome for each option")
        flags = good_flags(self.term, context, self.outcomes)
        return tuple([option for option, flag in enumerate(flags) if flag])

    def __or__(self, other):
        require_same_size(self, other)
        return Aim(("either", self.term, other.term), self.options, self.outcomes)

    def __and__(self, other):
        require_same_size(self, other)
        return Aim(("both", self.term, other.term), self.options, self.outcomes)

    def __sub__(self, other):
        require_same_size(self, other)
        return Aim(("both", self.term, ("not", other.term)), self.options, self.outcomes)

    def __invert__(self):
        return Aim(("not", self.term), self.options, self.outcomes)

    def text(self):
        """Return the text of the aim."""
        return write_term(("aim", self.options, self.outcomes, self.term))

    @staticmethod
    def read(text):
        """Return the aim with the text."""
        term = read_headed(text, "aim", 4, 2)
        return Aim(term[3], term[1], term[2])
