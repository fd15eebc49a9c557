"""Desks: papers with terms of aims and trees that use each other."""

from choosersrow.aims import Aim
from choosersrow.errors import InvalidTerm, NoStep, OutOfRange, UnknownName
from choosersrow.games import Game
from choosersrow.papers import are_triples, drop_paper, paper_of, papers_after, papers_of, put_paper, rename_paper
from choosersrow.sizes import has_outcomes
from choosersrow.terms import is_word, read_headed, write_term
from choosersrow.working import names_needed, names_using, worked_paper

FIRST_LIMIT = 20
MOST_LIMIT = 100


class Desk:
    """A desk: a number of outcomes, papers under names, and steps that can be undone and redone."""

    def __init__(self, outcomes):
        if not has_outcomes(outcomes):
            raise OutOfRange("a desk has 1 to 4 outcomes")
        self.outcomes = outcomes
        # No dict of papers is changed once it stands here, so a step is the dict that was here before it.
        self._papers = {}
        self._past = []
        self._future = []
        self._most = FIRST_LIMIT

    def _make_step(self, papers):
        self._past = self._past + [self._papers]
        self._future = []
        self._papers = papers
        self._forget()

    def _forget(self):
        self._past = self._past[-self._most:]

    def put(self, name, kind, term):
        """Put a paper under the name."""
        self._make_step(put_paper(self._papers, name, kind, term))

    def drop(self, name):
        """Remove the paper with the name."""
        self._make_step(drop_paper(self._papers, name))

    def rename(self, old, new):
        """Give the paper with the old name the new one, in all uses, too."""
        self._make_step(rename_paper(self._papers, old, new))

    def run(self, *edits):
        """Make the edits one after another, as one step."""
        papers = papers_after(self._papers, edits)
        if len(edits) > 0:
            self._make_step(papers)

    def undo(self):
        """Take back the last step."""
        if len(self._past) == 0:
            raise NoStep("there is no step to undo")
        self._future = self._future + [self._papers]
        self._papers = self._past[-1]
        self._past = self._past[:-1]

    def redo(self):
        """Take back the last undo."""
        if len(self._future) == 0:
            raise NoStep("there is no step to redo")
        self._past = self._past + [self._papers]
        self._papers = self._future[-1]
        self._future = self._future[:-1]
        self._forget()

    def keep(self, limit):
        """Set the limit of steps that can be undone."""
        if not 1 <= limit <= MOST_LIMIT:
            raise OutOfRange("the limit is from 1 to 100")
        self._most = limit
        self._forget()

    @property
    def names(self):
        """The names of the papers in ascending order."""
        return tuple(sorted(list(self._papers)))

    @property
    def steps(self):
        """The number of steps that can be undone."""
        return len(self._past)

    @property
    def undone(self):
        """The number of steps that can be redone."""
        return len(self._future)

    @property
    def limit(self):
        """The limit of steps that can be undone."""
        return self._most

    @limit.setter
    def limit(self, value):
        self.keep(value)

    def __contains__(self, x):
        return is_word(x) and x in self._papers

    def kind_of(self, name):
        """Return the kind of the paper with the name."""
        return paper_of(self._papers, name)[0]

    def term_of(self, name):
        """Return the term of the paper with the name."""
        return paper_of(self._papers, name)[1]

    def worked_term(self, name):
        """Return the worked term of the paper with the name."""
        return worked_paper(self._papers, name)

    def _worked_as(self, name, kind):
        if name not in self or self.kind_of(name) != kind:
            raise UnknownName(name)
        return self.worked_term(name)

    def make_game(self, name):
        """Return the game with the worked term of the tree paper with the name."""
        return Game(self.outcomes, self._worked_as(name, "tree"))

    def make_aim(self, name, options):
        """Return the aim of so many options with the worked term of the aim paper with the name."""
        return Aim(self._worked_as(name, "aim"), options, self.outcomes)

    def needed_names(self, name):
        """Return the names in all uses that the paper with the name comes to, in ascending order."""
        return names_needed(self._papers, name)

    def using_names(self, name):
        """Return the names of all papers that come to use the paper with the name, in ascending order."""
        return names_using(self._papers, name)

    def text(self):
        """Return the text of the desk."""
        triples = [(name, self._papers[name][0], self._papers[name][1]) for name in self.names]
        return write_term(("desk", self.outcomes, tuple(triples)))

    @staticmethod
    def read(text):
        """Return the desk with the text; it has no steps."""
        term = read_headed(text, "desk", 3, 1)
        if not are_triples(term[2]):
            raise InvalidTerm(())
        desk = Desk(term[1])
        desk._papers = papers_of(term[2])
        return desk
