"""The errors that the program raises."""


class ChoosersError(ValueError):
    """The base class of all errors of the program."""


class InvalidText(ChoosersError):
    """A text is not the text of a term."""

    def __init__(self, position):
        super().__init__(f"no text of a term goes on like this at position {position}")
        self.position = position


class InvalidTerm(ChoosersError):
    """A part of a term is wrong."""

    def __init__(self, path):
        super().__init__(f"the part at the path {path} is wrong")
        self.path = path


class InvalidAim(InvalidTerm):
    """A part of the term of an aim is wrong."""


class InvalidGame(InvalidTerm):
    """A part of the term of a game is wrong."""


class InvalidQuery(InvalidTerm):
    """A part of the term of a query is wrong."""


class InvalidContext(ChoosersError):
    """Something is not a context of the size."""


class OutOfRange(ChoosersError):
    """A value is not one of those that are allowed."""


class SizeMismatch(ChoosersError):
    """Sizes do not fit each other."""


class TooLarge(ChoosersError):
    """Something is larger than allowed."""


class NotGood(ChoosersError):
    """An option is not good."""


class InvalidChooser(ChoosersError):
    """A row is not the row of a chooser."""

    def __init__(self, index):
        super().__init__(f"the row is wrong at index {index}")
        self.index = index


class InvalidPlan(ChoosersError):
    """A tuple is not a plan."""

    def __init__(self, index):
        super().__init__(f"the plan is wrong at index {index}")
        self.index = index


class NotMet(ChoosersError):
    """A chooser does not meet an aim."""

    def __init__(self, index):
        super().__init__(f"the aim is not met in the context with the number {index}")
        self.index = index


class NotOptimal(ChoosersError):
    """A plan is not optimal."""

    def __init__(self, index):
        super().__init__(f"the node with the number {index} is faulty")
        self.index = index


class NotDuel(ChoosersError):
    """A game is not a duel."""

    def __init__(self, index):
        super().__init__(f"the aim of the node with the number {index} does not fit a duel")
        self.index = index


class NotOrders(ChoosersError):
    """The aims of a game are not orders of its players."""

    def __init__(self, index):
        super().__init__(f"the aim of the node with the number {index} does not fit")
        self.index = index


class EndlessGame(ChoosersError):
    """A loose game is endless."""

    def __init__(self, way):
        super().__init__(f"the way {way} comes round")
        self.way = way


class InvalidName(ChoosersError):
    """A name is not a word."""


class NoStep(ChoosersError):
    """There is no step to undo or to redo."""


class UnknownName(ChoosersError):
    """No paper has the name."""

    def __init__(self, name):
        super().__init__(f"no paper has the name {name}")
        self.name = name


class NameTaken(ChoosersError):
    """A paper has the name already."""

    def __init__(self, name):
        super().__init__(f"a paper has the name {name} already")
        self.name = name


class CircularUse(ChoosersError):
    """A paper uses itself."""

    def __init__(self, name):
        super().__init__(f"the use of {name} leads back to itself")
        self.name = name


class EditFailed(ChoosersError):
    """An edit of a run failed."""

    def __init__(self, index):
        super().__init__(f"the edit at index {index} failed")
        self.index = index
