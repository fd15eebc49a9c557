"""The words of the document about desks said once more in a plain way, so that the tests do not lean on the program."""

import random
import string

from choosersrow.terms import write_term

NAMES = ["a", "b", "c", "d", "e", "f", "g", "h"]
NO_WORDS = ["", "A", "a b", "a1", "abcdefghijklm", "aim-", 7, (), ("a",), None, -1, "\u00e4", "a\n"]


def is_use(term):
    return (isinstance(term, tuple) and len(term) == 2 and term[0] in ("aim", "tree") and isinstance(term[1], str)
            and 1 <= len(term[1]) <= 12 and set(term[1]) <= set(string.ascii_lowercase))


def parts_of(term):
    """Yield the parts of the term in reading order."""
    yield term
    if isinstance(term, tuple):
        for item in term:
            yield from parts_of(item)


def tuples_in(term):
    return sum(isinstance(part, tuple) for part in parts_of(term))


def depth_of(term):
    return 1 + max([depth_of(item) for item in term], default=0) if isinstance(term, tuple) else 0


def told_uses(term):
    return [part for part in parts_of(term) if is_use(part)]


def told_worked(papers, name, above=()):
    """Return the worked term, or the pair of the word of the error and the name in the wrong use in a list."""
    kind, term = papers[name]

    def replaced(part):
        if is_use(part):
            if papers.get(part[1], (None,))[0] != part[0]:
                return ["unknown", part[1]]
            if part[1] in above + (name,):
                return ["circular", part[1]]
            return told_worked(papers, part[1], above + (name,))
        if not isinstance(part, tuple):
            return part
        made = []
        for item in part:
            made.append(replaced(item))
            if isinstance(made[-1], list):
                return made[-1]
        return tuple(made)
    return replaced(term)


def told_used(papers, name):
    return {use[1] for use in told_uses(papers[name][1]) if papers.get(use[1], (None,))[0] == use[0]}


def told_behind(papers, name):
    """Return the set of the names of the papers to which one comes from the paper by one use or more."""
    found = told_used(papers, name)
    while True:
        more = found.union(*[told_used(papers, other) for other in found])
        if more == found:
            return found
        found = more


def papers_on(desk):
    return {name: (desk.kind_of(name), desk.term_of(name)) for name in desk.names}


def state_of(desk):
    """Return all that can be seen of a desk."""
    return (desk.outcomes, papers_on(desk), desk.steps, desk.undone, desk.limit, desk.text())


def nested(depth, inside="x"):
    """Return a term whose tuples are nested so deep."""
    for _ in range(depth):
        inside = (inside,)
    return inside


def drawn_paper(source, depth=3):
    """Return a term with uses here and there."""
    if depth == 0 or source.random() < 0.2:
        return source.choice(["x", 7, ("any",), (), ("aim", source.choice(NAMES)), ("tree", source.choice(NAMES)),
                              ("aim", 7), ("tree",), ("aim", "a", "b"), ("leaf", "a"), ("aim", ("aim", "a"))])
    return tuple(drawn_paper(source, depth - 1) for _ in range(source.randrange(4)))


def drawn_papers(seed, many):
    source = random.Random(seed)
    found = []
    for _ in range(many):
        names = source.sample(NAMES, source.randrange(1, 6))
        found.append({name: (source.choice(["aim", "tree"]), drawn_paper(source)) for name in names})
    return found


def put_all(desk, papers):
    for name, (kind, term) in papers.items():
        desk.put(name, kind, term)
        write_term(term)
    return desk
