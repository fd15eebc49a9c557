"""Papers: terms under names, and the uses in them. The papers of a desk are a dict of pairs of kind and term."""

from choosersrow.errors import ChoosersError, EditFailed, InvalidName, NameTaken, OutOfRange, TooLarge, UnknownName
from choosersrow.terms import is_word, write_term

KINDS = ("aim", "tree")
MOST_PAPERS = 20
DEEPEST_TERM = 20


def is_use(term):
    """Return whether the term is a use."""
    return isinstance(term, tuple) and len(term) == 2 and term[0] in KINDS and is_word(term[1])


def uses_in(term):
    """Return the list of the uses in a term, in reading order."""
    if is_use(term):
        return [term]
    if not isinstance(term, tuple):
        return []
    return [use for item in term for use in uses_in(item)]


def with_uses(term, others):
    """Return the term in which those uses are replaced that the dict has something else for."""
    if is_use(term):
        return others.get(term, term)
    if not isinstance(term, tuple):
        return term
    return tuple([with_uses(item, others) for item in term])


def tuples_and_depth(term, known):
    """Return how many tuples a term has and how deep they are nested, and take both for some uses as known."""
    if not isinstance(term, tuple):
        return (0, 0)
    if is_use(term) and term in known:
        return known[term]
    parts = [tuples_and_depth(item, known) for item in term]
    return (1 + sum([many for many, _ in parts]), 1 + max([depth for _, depth in parts], default=0))


def paper_of(papers, name):
    """Return the pair of kind and term of the paper with the name."""
    if not is_word(name) or name not in papers:
        raise UnknownName(name)
    return papers[name]


def require_word(name):
    """Return None if the name is a word."""
    if not is_word(name):
        raise InvalidName("a name is a word")


def require_room(many):
    """Return None if a desk can have so many papers."""
    if many > MOST_PAPERS:
        raise TooLarge("a desk has at most 20 papers")


def require_shallow(term):
    """Return None if the tuples of a term are nested no deeper than those of a paper can be."""
    if tuples_and_depth(term, {})[1] > DEEPEST_TERM:
        raise TooLarge("the tuples of a paper are nested at most 20 deep")


def put_paper(papers, name, kind, term):
    """Return the papers with this one under the name."""
    require_word(name)
    if kind not in KINDS:
        raise OutOfRange("the kind of a paper is aim or tree")
    # Only a term has a text.
    write_term(term)
    require_shallow(term)
    more = {**papers, name: (kind, term)}
    require_room(len(more))
    return more


def drop_paper(papers, name):
    """Return the papers without the one with the name."""
    paper_of(papers, name)
    return {other: papers[other] for other in papers if other != name}


def rename_paper(papers, old, new):
    """Return the papers in which the one with the old name has the new one, in the uses, too."""
    kind, _ = paper_of(papers, old)
    require_word(new)
    if new in papers:
        raise NameTaken(new)
    others = {(kind, old): (kind, new)}
    renamed = {}
    for name in papers:
        renamed[new if name == old else name] = (papers[name][0], with_uses(papers[name][1], others))
    return renamed


def are_triples(term):
    """Return whether the term has triples of name, kind and term, in ascending order of the names."""
    if not isinstance(term, tuple):
        return False
    last = ""
    for triple in term:
        if not isinstance(triple, tuple) or len(triple) != 3:
            return False
        if not is_word(triple[0]) or triple[1] not in KINDS or triple[0] <= last:
            return False
        last = triple[0]
    return True


def papers_of(triples):
    """Return the papers with these triples of name, kind and term."""
    require_room(len(triples))
    for triple in triples:
        require_shallow(triple[2])
    return {name: (kind, term) for name, kind, term in triples}


def edited_papers(papers, edit):
    """Return the papers after one edit."""
    if edit[0] == "put":
        return put_paper(papers, edit[1], edit[2], edit[3])
    if edit[0] == "drop":
        return drop_paper(papers, edit[1])
    return rename_paper(papers, edit[1], edit[2])


def papers_after(papers, edits):
    """Return the papers after all edits."""
    edited = papers
    for index, edit in enumerate(edits):
        try:
            edited = edited_papers(edited, edit)
        except ChoosersError as error:
            raise EditFailed(index) from error
    return edited
