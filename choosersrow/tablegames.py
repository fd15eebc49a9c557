"""Table games: all players choose at once."""

from choosersrow.errors import InvalidGame, OutOfRange, TooLarge
from choosersrow.games import placed_aim
from choosersrow.plays import require_whole
from choosersrow.sizes import has_outcomes
from choosersrow.terms import is_below, read_headed, write_term
from choosersrow.walks import all_choices, count_choices


def first_lengths(table, players):
    """Return the lengths of the first tuples on the levels of a table, as far as there are such tuples."""
    lengths = ()
    part = table
    while len(lengths) < players and isinstance(part, tuple) and len(part) > 0:
        lengths = lengths + (len(part),)
        part = part[0]
    return lengths


def wrong_table(part, lengths, level, players, outcomes):
    """Return the path of the first wrong part of a part of a table inside so many tuples, or None."""
    if level == players:
        return None if is_below(part, outcomes) else ()
    # Where a level has no length, its first part is wrong, and no other one is looked at.
    if level >= len(lengths) or not isinstance(part, tuple) or len(part) != lengths[level]:
        return ()
    for index, below in enumerate(part):
        path = wrong_table(below, lengths, level + 1, players, outcomes)
        if path is not None:
            return (index,) + path
    return None


def checked_sizes(table, players, outcomes):
    """Return the numbers of options of the players of a table."""
    sizes = first_lengths(table, players)
    path = wrong_table(table, sizes, 0, players, outcomes)
    if path is not None:
        raise InvalidGame((0,) + path)
    require_table_size(sizes)
    return sizes


def require_table_size(sizes):
    """Return None if the players of a table game can have these numbers of options."""
    if max(sizes) > TableGame.MOST_OPTIONS:
        raise TooLarge("a player has at most 64 options")
    if count_choices(sizes) > TableGame.MOST_PLAYS:
        raise TooLarge("a table game has at most 256 plays")


def entry_at(table, play):
    """Return the entry of the table to which the options of a play lead."""
    part = table
    for option in play:
        part = part[option]
    return part


def require_play(tablegame, play):
    """Return None if the tuple is a play of the table game."""
    require_whole(tablegame.sizes, play)


def outcome_of(tablegame, play):
    """Return the outcome of the play."""
    require_play(tablegame, play)
    return entry_at(tablegame.table, play)


def context_in(tablegame, play, player):
    """Return the context that a player faces in a play."""
    before, behind = play[:player], play[player + 1:]
    options = range(tablegame.sizes[player])
    return tuple([entry_at(tablegame.table, before + (option,) + behind) for option in options])


def faced_by(tablegame, play, player):
    """Return the context that the player faces in the play."""
    require_play(tablegame, play)
    if not is_below(player, len(tablegame.sizes)):
        raise OutOfRange("no player has this number")
    return context_in(tablegame, play, player)


def leavers(tablegame, play):
    """Return the players that leave a play, in ascending order."""
    found = []
    for player, aim in enumerate(tablegame.aims):
        if play[player] not in aim.good(context_in(tablegame, play, player)):
            found.append(player)
    return tuple(found)


def leaving_players(tablegame, play):
    """Return the players that leave the play, in ascending order."""
    require_play(tablegame, play)
    return leavers(tablegame, play)


def rest_plays(tablegame):
    """Return all rests in ascending order."""
    return tuple([play for play in all_choices(tablegame.sizes) if len(leavers(tablegame, play)) == 0])


class TableGame:
    """A table game: a number of outcomes, a table, and an aim for each player."""

    MOST_PLAYERS = 4
    MOST_OPTIONS = 64
    MOST_PLAYS = 256

    def __init__(self, outcomes, table, aims):
        if not has_outcomes(outcomes):
            raise OutOfRange("a table game has 1 to 4 outcomes")
        if not isinstance(aims, tuple) or not 1 <= len(aims) <= TableGame.MOST_PLAYERS:
            raise InvalidGame((1,))
        sizes = checked_sizes(table, len(aims), outcomes)
        self.outcomes = outcomes
        self.table = table
        self.aims = tuple([placed_aim(term, sizes[player], outcomes, (1, player)) for player, term in enumerate(aims)])
        self.sizes = sizes

    def text(self):
        """Return the text of the table game."""
        terms = tuple([aim.term for aim in self.aims])
        return write_term(("table", self.outcomes, self.table, terms))

    @staticmethod
    def read(text):
        """Return the table game with the text."""
        term = read_headed(text, "table", 4, 1)
        return TableGame(term[1], term[2], term[3])
