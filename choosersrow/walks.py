"""Choices of widths and their numbers."""

from choosersrow.errors import OutOfRange
from choosersrow.terms import is_below


def count_choices(widths):
    """Return the number of choices of the widths."""
    many = 1
    for width in widths:
        many = many * width
    return many


def choice_at(widths, index):
    """Return the choice of the widths with the index."""
    if not 0 <= index < count_choices(widths):
        raise OutOfRange("no choice has this index")
    entries = []
    rest = index
    for width in widths[::-1]:
        rest, entry = divmod(rest, width)
        entries.append(entry)
    return tuple(entries[::-1])


def choice_index(widths, choice):
    """Return the index of the choice of the widths."""
    if len(choice) != len(widths):
        raise OutOfRange("a choice has one number for each width")
    index = 0
    for width, entry in zip(widths, choice):
        if not is_below(entry, width):
            raise OutOfRange("a number of a choice is from 0 to its width minus one")
        index = index * width + entry
    return index


def all_choices(widths):
    """Yield the choices of the widths in ascending order."""
    choice = None if 0 in widths else (0,) * len(widths)
    while choice is not None:
        yield choice
        choice = choice_behind(widths, choice)


def choice_behind(widths, choice):
    """Return the choice that comes next in ascending order, or None behind the last one."""
    place = len(widths) - 1
    while place >= 0 and choice[place] == widths[place] - 1:
        place -= 1
    if place < 0:
        return None
    return choice[:place] + (choice[place] + 1,) + (0,) * (len(widths) - place - 1)
