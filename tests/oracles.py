"""The words of the document said once more in sets, so that the tests do not lean on the program."""

from tests.helpers import contexts


def all_options(context):
    return set(range(len(context)))


def with_outcomes(context, outcomes):
    return {option for option in all_options(context) if context[option] in outcomes}


def greatest_first(ranks, context):
    """Return the sets of the outcomes that occur, each with one rank, the greatest rank first."""
    levels = sorted({ranks[outcome] for outcome in context}, reverse=True)
    return [{outcome for outcome in context if ranks[outcome] == level} for level in levels]


def by_numbers(context, pick):
    """Return the options of the outcomes that follow as many options as the pick of all these numbers."""
    numbers = {outcome: sum(entry == outcome for entry in context) for outcome in set(context)}
    return with_outcomes(context, {outcome for outcome in numbers if numbers[outcome] == pick(numbers.values())})


def good_set(term, context, outcomes):
    """Return the set of the good options, by the words of points 8 and 9."""
    word, *items = term
    if word == "any":
        return all_options(context)
    if word == "best":
        return with_outcomes(context, greatest_first(items[0], context)[0])
    if word == "second":
        levels = greatest_first(items[0], context)
        return with_outcomes(context, levels[1]) if len(levels) > 1 else all_options(context)
    if word == "most":
        return by_numbers(context, max)
    if word == "fewest":
        return by_numbers(context, min)
    if word == "fixed":
        return {option for option in all_options(context) if context[option] == option}
    if word == "like":
        return with_outcomes(context, {context[items[0]]})
    if word == "unlike":
        return all_options(context) - with_outcomes(context, {context[items[0]]})
    if word == "among":
        return with_outcomes(context, set(items[0]))
    if word == "only":
        return set(items[0])
    if word == "table":
        return set(items[0][contexts(len(context), outcomes).index(context)])
    return compound_set(word, items, context, outcomes)


def compound_set(word, items, context, outcomes):
    inner = items[-1]
    if word == "either":
        return good_set(items[0], context, outcomes) | good_set(inner, context, outcomes)
    if word == "both":
        return good_set(items[0], context, outcomes) & good_set(inner, context, outcomes)
    if word == "else":
        return good_set(items[0], context, outcomes) or good_set(inner, context, outcomes)
    if word == "not":
        return all_options(context) - good_set(inner, context, outcomes)
    if word == "first":
        return set(sorted(good_set(inner, context, outcomes))[:1])
    if word == "recode":
        return good_set(inner, tuple(items[0][outcome] for outcome in context), outcomes)
    assert word == "reorder"
    places = items[0]
    moved = tuple(context[places.index(place)] for place in range(len(context)))
    good = good_set(inner, moved, outcomes)
    return {option for option in all_options(context) if places[option] in good}


def good_options(term, context, outcomes):
    return tuple(sorted(good_set(term, context, outcomes)))


def term_table(term, options, outcomes):
    """Return the table of the aim with the term."""
    return tuple(good_options(term, context, outcomes) for context in contexts(options, outcomes))


def drawn_term(source, options, outcomes, depth):
    """Return a term of an aim of the size, drawn from the random source, at most so deep."""
    simple = ["any", "best", "second", "most", "fewest", "fixed", "like", "unlike", "among", "only", "table"]
    compound = ["either", "both", "else", "not", "first", "recode", "reorder"]
    if outcomes ** options > 256 or options > 8:
        simple.remove("table")
    word = source.choice(simple + compound if depth > 1 else simple)
    if word in ("any", "most", "fewest", "fixed"):
        return (word,)
    if word in ("best", "second"):
        return (word, tuple(source.randrange(10) for _ in range(outcomes)))
    if word in ("like", "unlike"):
        return (word, source.randrange(options))
    if word == "among":
        return (word, drawn_part(source, outcomes))
    if word == "only":
        return (word, drawn_part(source, options))
    if word == "table":
        return (word, tuple(drawn_part(source, options) for _ in contexts(options, outcomes)))
    inner = drawn_term(source, options, outcomes, depth - 1)
    if word in ("not", "first"):
        return (word, inner)
    if word == "recode":
        return (word, tuple(source.randrange(outcomes) for _ in range(outcomes)), inner)
    if word == "reorder":
        return (word, tuple(source.sample(range(options), options)), inner)
    return (word, inner, drawn_term(source, options, outcomes, depth - 1))


def drawn_part(source, limit):
    """Return an ascending tuple of different numbers below the limit."""
    return tuple(number for number in range(limit) if source.randrange(2))
