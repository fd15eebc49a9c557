"""Reports of desks: one line for each paper."""

from choosersrow.errors import ChoosersError, CircularUse, TooLarge, UnknownName
from choosersrow.gamevalues import game_value
from choosersrow.papers import tuples_and_depth
from choosersrow.terms import LONGEST_WORD

KIND_WIDTH = 4
NUMBER_WIDTH = 5


def report_lines(desk):
    """Return the lines of the report, in ascending order of the names of the papers."""
    return tuple([report_line(desk, name) for name in desk.names])


def report_line(desk, name):
    """Return the line of the paper with the name."""
    many, _ = tuples_and_depth(desk.term_of(name), {})
    parts = [name.ljust(LONGEST_WORD), desk.kind_of(name).ljust(KIND_WIDTH), str(many).rjust(NUMBER_WIDTH)]
    return " ".join(parts + [paper_state(desk, name)])


def paper_state(desk, name):
    """Return the state of the paper with the name."""
    try:
        desk.worked_term(name)
    except (UnknownName, CircularUse):
        return "open"
    except TooLarge:
        return "large"
    if desk.kind_of(name) == "aim":
        return "ready"
    try:
        game = desk.make_game(name)
    except ChoosersError:
        return "wrong"
    return value_state(game)


def value_state(game):
    """Return the state of a paper with the game."""
    value = game_value(game)
    if len(value) == 0:
        return "value none"
    return "value " + " ".join([str(outcome) for outcome in value])
