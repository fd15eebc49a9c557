"""Loose games: decisions to which several ways may lead."""

from choosersrow.errors import EndlessGame, InvalidGame, OutOfRange, TooLarge
from choosersrow.games import ITEMS_BEFORE, checked_aim, has_form
from choosersrow.sizes import has_outcomes
from choosersrow.terms import is_below, read_headed, write_term


def checked_stand(stand, outcomes, many, path):
    """Return the aim of a stand at the path, one of so many, or None for an end stand."""
    if not has_form(stand, "stand", outcomes):
        raise InvalidGame(path)
    aim = checked_aim(stand, outcomes, path)
    for place in range(ITEMS_BEFORE, len(stand)):
        if not is_below(stand[place], many):
            raise InvalidGame(path + (place,))
    return aim


def targets_of(stand):
    """Return the targets of a stand; an end stand has none."""
    return stand[ITEMS_BEFORE:]


def reached_from(stands, number, reached):
    """Return the numbers of the reached stands and, behind them, of the stand and all to which it leads."""
    if number in reached:
        return reached
    longer = reached + (number,)
    for target in targets_of(stands[number]):
        longer = reached_from(stands, target, longer)
    return longer


def found_round(loose, visited, done):
    """Return the options behind the visited stands of the first way that comes round, or None, and stands without.

    No way that comes round leads through the stands that are done, so there are not too many ways to look at.
    """
    for option, target in enumerate(targets_of(loose.stands[visited[-1]])):
        if target in visited:
            return ((option,), done)
        if target not in done:
            way, done = found_round(loose, visited + (target,), done)
            if way is not None:
                return ((option,) + way, done)
    return (None, done + (visited[-1],))


def round_way(loose):
    """Return the first way that comes round, or None."""
    way, _ = found_round(loose, (0,), ())
    return way


def require_end(loose):
    """Return None if the loose game is not endless."""
    way = round_way(loose)
    if way is not None:
        raise EndlessGame(way)


def targets_first(loose):
    """Return the reached stands of a loose game that is not endless in an order in which their targets come first."""
    return order_from(loose, 0, ())


def order_from(loose, number, order):
    """Return the order of stands and, behind it, the stand and all to which it leads; targets come first."""
    if number in order:
        return order
    longer = order
    for target in targets_of(loose.stands[number]):
        longer = order_from(loose, target, longer)
    return longer + (number,)


def way_lengths(loose):
    """Return the least and the greatest number of options of the ways that lead to end stands."""
    require_end(loose)
    lengths = {}
    for number in targets_first(loose):
        behind = [lengths[target] for target in targets_of(loose.stands[number])]
        least = min([pair[0] for pair in behind], default=-1) + 1
        greatest = max([pair[1] for pair in behind], default=-1) + 1
        lengths[number] = (least, greatest)
    return lengths[0]


class LooseGame:
    """A loose game: a number of outcomes and stands."""

    MOST_STANDS = 30

    def __init__(self, outcomes, stands):
        if not has_outcomes(outcomes):
            raise OutOfRange("a loose game has 1 to 4 outcomes")
        if not isinstance(stands, tuple) or len(stands) == 0:
            raise InvalidGame(())
        aims = [checked_stand(stand, outcomes, len(stands), (number,)) for number, stand in enumerate(stands)]
        if len(stands) > LooseGame.MOST_STANDS:
            raise TooLarge("a loose game has at most 30 stands")
        self.outcomes = outcomes
        self.stands = stands
        self.reached = tuple(sorted(reached_from(stands, 0, ())))
        # There is None for each end stand.
        self.aims = tuple(aims)

    def text(self):
        """Return the text of the loose game."""
        return write_term(("loose", self.outcomes, self.stands))

    @staticmethod
    def read(text):
        """Return the loose game with the text."""
        term = read_headed(text, "loose", 3, 1)
        return LooseGame(term[1], term[2])
