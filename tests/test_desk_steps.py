"""Point 124: steps, undoing and redoing them, and the limit."""

import random

from choosersrow.desk import Desk
from choosersrow.errors import NoStep, OutOfRange, UnknownName
from tests.deskoracles import papers_on, state_of
from tests.test_desk import DeskCase

ANY = ("any",)


def numbered(desk, many, start=0):
    """Make so many steps, each of which puts another number under the name a."""
    for number in range(start, start + many):
        desk.put("a", "aim", number)
    return desk


class Told:
    """Steps by the words of point 124, with all papers kept at all times."""

    def __init__(self):
        self.past, self.now, self.future, self.limit = [], {}, [], 20

    def cut(self):
        while len(self.past) > self.limit:
            self.past.pop(0)

    def step(self, papers):
        self.past.append(self.now)
        self.now, self.future = papers, []
        self.cut()

    def undo(self):
        self.future.append(self.now)
        self.now = self.past.pop()

    def redo(self):
        self.past.append(self.now)
        self.now = self.future.pop()
        self.cut()

    def keep(self, limit):
        self.limit = limit
        self.cut()


class TestSteps(DeskCase):
    def test_each_kind_of_step(self):
        desk = Desk(2)
        seen = [papers_on(desk)]
        for change in [lambda: desk.put("a", "aim", ANY), lambda: desk.put("b", "aim", ("aim", "a")),
                       lambda: desk.rename("a", "c"), lambda: desk.run(("put", "d", "tree", 0), ("drop", "c")),
                       lambda: desk.drop("b"), lambda: desk.put("d", "tree", 0)]:
            self.assertIsNone(change())
            seen.append(papers_on(desk))
            self.assertEqual((desk.steps, desk.undone), (len(seen) - 1, 0))
        for many in range(1, len(seen)):
            self.assertIsNone(desk.undo())
            self.assertEqual(papers_on(desk), seen[-1 - many])
            self.assertEqual((desk.steps, desk.undone), (len(seen) - 1 - many, many))
        for many in range(1, len(seen)):
            self.assertIsNone(desk.redo())
            self.assertEqual(papers_on(desk), seen[many])
            self.assertEqual((desk.steps, desk.undone), (many, len(seen) - 1 - many))

    def test_a_step_that_changes_nothing(self):
        desk = Desk(2)
        desk.put("a", "aim", ANY)
        desk.put("a", "aim", ANY)
        self.assertEqual(desk.steps, 2)
        desk.undo()
        self.assertEqual(papers_on(desk), {"a": ("aim", ANY)})

    def test_nothing_to_undo_or_redo(self):
        desk = Desk(2)
        self.fails(desk, NoStep, desk.undo)
        self.fails(desk, NoStep, desk.redo)
        numbered(desk, 2)
        self.fails(desk, NoStep, desk.redo)
        desk.undo()
        desk.undo()
        self.fails(desk, NoStep, desk.undo)
        desk.redo()
        desk.redo()
        self.fails(desk, NoStep, desk.redo)

    def test_new_steps_end_redoing(self):
        desk = numbered(Desk(2), 3)
        desk.undo()
        desk.undo()
        self.assertEqual((desk.steps, desk.undone), (1, 2))
        desk.put("b", "aim", ANY)
        self.assertEqual((desk.steps, desk.undone), (2, 0))
        self.fails(desk, NoStep, desk.redo)
        desk.undo()
        desk.run(("drop", "a"))
        self.assertEqual((desk.steps, desk.undone, desk.names), (2, 0, ()))
        desk.undo()
        self.assertEqual(desk.term_of("a"), 0)

    def test_calls_that_fail_are_no_steps(self):
        desk = numbered(Desk(2), 3)
        desk.undo()
        self.fails(desk, UnknownName, desk.drop, "b")
        self.assertEqual((desk.steps, desk.undone), (2, 1))
        desk.redo()
        self.assertEqual(desk.term_of("a"), 2)

    def test_more_steps_than_the_limit(self):
        desk = numbered(Desk(2), 30)
        self.assertEqual((desk.steps, desk.limit), (20, 20))
        for number in range(28, 8, -1):
            desk.undo()
            self.assertEqual(desk.term_of("a"), number)
        self.fails(desk, NoStep, desk.undo)
        self.assertEqual(desk.undone, 20)
        desk.put("a", "aim", 50)
        self.assertEqual((desk.steps, desk.undone), (1, 0))

    def test_steps_that_are_redone(self):
        desk = numbered(Desk(2), 10)
        for _ in range(5):
            desk.undo()
        desk.keep(6)
        self.assertEqual((desk.steps, desk.undone, desk.term_of("a")), (5, 5, 4))
        for number in range(5, 10):
            desk.redo()
            self.assertEqual((desk.term_of("a"), desk.steps), (number, 6))
        self.assertEqual((desk.steps, desk.undone), (6, 0))
        for number in range(8, 2, -1):
            desk.undo()
            self.assertEqual(desk.term_of("a"), number)
        self.fails(desk, NoStep, desk.undo)

    def test_limits(self):
        for keep in (lambda desk, limit: desk.keep(limit), lambda desk, limit: setattr(desk, "limit", limit)):
            desk = numbered(Desk(2), 15)
            desk.undo()
            for limit in (0, 101, -1, 10 ** 20):
                self.fails(desk, OutOfRange, keep, desk, limit)
            for limit, steps in [(100, 14), (14, 14), (13, 13), (5, 5), (20, 5), (1, 1), (100, 1)]:
                self.assertIsNone(keep(desk, limit))
                self.assertEqual((desk.limit, desk.steps, desk.undone), (limit, steps, 1))
            desk.undo()
            self.assertEqual(desk.term_of("a"), 12)
            self.fails(desk, NoStep, desk.undo)
            desk.redo()
            desk.redo()
            self.assertEqual(desk.term_of("a"), 14)

    def test_limit_one(self):
        desk = Desk(2)
        desk.limit = 1
        numbered(desk, 5)
        self.assertEqual(desk.steps, 1)
        desk.undo()
        self.assertEqual((desk.steps, desk.undone, desk.term_of("a")), (0, 1, 3))
        desk.redo()
        self.assertEqual((desk.steps, desk.undone, desk.term_of("a")), (1, 0, 4))

    def test_limit_hundred(self):
        desk = Desk(2)
        desk.limit = 100
        numbered(desk, 130)
        self.assertEqual(desk.steps, 100)
        for _ in range(100):
            desk.undo()
        self.assertEqual(desk.term_of("a"), 29)
        desk.limit = 3
        self.assertEqual((desk.steps, desk.undone), (0, 100))
        for _ in range(100):
            desk.redo()
        self.assertEqual((desk.steps, desk.undone, desk.term_of("a")), (3, 0, 129))

    def test_setting_the_limit_is_no_step(self):
        desk = numbered(Desk(2), 3)
        desk.undo()
        desk.keep(7)
        desk.limit = 8
        self.assertEqual((desk.steps, desk.undone), (2, 1))
        desk.undo()
        self.assertEqual(desk.limit, 8)

    def test_drawn_steps(self):
        source = random.Random(111)
        for _ in range(30):
            desk, told = Desk(2), Told()
            desk.keep(4)
            told.keep(4)
            for number in range(60):
                self.draw(source, desk, told, number)
                self.assertEqual((papers_on(desk), desk.steps, desk.undone, desk.limit),
                                 (told.now, len(told.past), len(told.future), told.limit))

    def draw(self, source, desk, told, number):
        what = source.choice(["put", "put", "undo", "undo", "redo", "redo", "keep", "fail"])
        if what == "put":
            name = source.choice("abc")
            desk.put(name, "aim", number)
            told.step({**told.now, name: ("aim", number)})
        elif what == "undo" and told.past:
            desk.undo()
            told.undo()
        elif what == "redo" and told.future:
            desk.redo()
            told.redo()
        elif what == "keep":
            limit = source.randrange(1, 7)
            desk.keep(limit)
            told.keep(limit)
        elif what == "undo" or what == "redo":
            self.fails(desk, NoStep, getattr(desk, what))

    def test_desks_do_not_share_papers(self):
        desk = numbered(Desk(2), 2)
        other = Desk.read(desk.text())
        other.put("b", "aim", ANY)
        desk.drop("a")
        self.assertEqual(other.names, ("a", "b"))
        self.assertEqual(desk.names, ())
        self.assertEqual(state_of(Desk(2)), state_of(Desk(2)))
