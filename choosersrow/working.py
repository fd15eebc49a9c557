"""What the papers of a desk use, and their worked terms."""

from choosersrow.errors import CircularUse, TooLarge, UnknownName
from choosersrow.papers import paper_of, tuples_and_depth, uses_in, with_uses

MOST_TUPLES = 2000
DEEPEST_WORKED = 60


def stands_for_paper(papers, use):
    """Return whether the use stands for one of the papers."""
    kind, name = use
    return name in papers and papers[name][0] == kind


def uses_of(papers, name):
    """Return the list of the uses in the term of a paper, in reading order."""
    return uses_in(papers[name][1])


def working_order(papers, way, order):
    """Return the order of papers and, behind it, the last one on the way and all that it uses, each after its uses.

    The way has the names of the papers through whose uses one has come. What stands in the order already was looked
    at whole, so none of its uses is wrong, and it leads back to no paper on the way.
    """
    longer = order
    for use in uses_of(papers, way[-1]):
        name = use[1]
        if not stands_for_paper(papers, use):
            raise UnknownName(name)
        if name in way:
            raise CircularUse(name)
        if name not in longer:
            longer = working_order(papers, way + (name,), longer)
    return longer + (way[-1],)


def worked_paper(papers, name):
    """Return the worked term of the paper with the name."""
    paper_of(papers, name)
    order = working_order(papers, (name,), ())
    # The tuples are counted without being made, as there can be far too many.
    known = {}
    for each in order:
        known[(papers[each][0], each)] = tuples_and_depth(papers[each][1], known)
    many, depth = known[(papers[name][0], name)]
    if many > MOST_TUPLES or depth > DEEPEST_WORKED:
        raise TooLarge("a worked term has at most 2000 tuples, nested at most 60 deep")
    worked = {}
    for each in order:
        worked[(papers[each][0], each)] = with_uses(papers[each][1], worked)
    return worked[(papers[name][0], name)]


def used_papers(papers):
    """Return for each paper, under its name, the list of the names of the papers that it uses."""
    used = {}
    for name in papers:
        used[name] = [use[1] for use in uses_of(papers, name) if stands_for_paper(papers, use)]
    return used


def names_from(used, names, reached):
    """Return the names of reached papers and, behind them, of these papers and all that they use."""
    longer = reached
    for name in names:
        if name not in longer:
            longer = names_from(used, used[name], longer + (name,))
    return longer


def names_needed(papers, name):
    """Return the names in all uses to which one comes from the paper with the name, in ascending order."""
    paper_of(papers, name)
    reached = names_from(used_papers(papers), [name], ())
    return tuple(sorted(set([use[1] for each in reached for use in uses_of(papers, each)])))


def names_using(papers, name):
    """Return the names of all papers from which one comes to the paper with the name, in ascending order."""
    paper_of(papers, name)
    used = used_papers(papers)
    return tuple(sorted([each for each in papers if name in names_from(used, used[each], ())]))
