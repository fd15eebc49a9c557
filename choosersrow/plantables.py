"""Games as table games, in which each player chooses a plan at once, and table games as games."""

from choosersrow.errors import NotOrders, OutOfRange, TooLarge
from choosersrow.facing import ascending
from choosersrow.grafting import level_game
from choosersrow.orders import dense_ranks
from choosersrow.plays import played_to, require_plan, require_whole
from choosersrow.sizes import is_small
from choosersrow.tablegames import TableGame, entry_at, require_table_size
from choosersrow.walks import all_choices, choice_at, choice_index, count_choices


def player_nodes(game):
    """Return for each player of the plan table the numbers of the nodes at which the player chooses."""
    players = ascending([node.player for node in game.nodes])
    return [[number for number, node in enumerate(game.nodes) if node.player == player] for player in players]


def widths_at(game, numbers):
    """Return the numbers of options of the nodes with these numbers."""
    return tuple([game.nodes[number].aim.options for number in numbers])


def node_ranks(node):
    """Return the dense ranks of the aim of a node, or None if its term does not begin with the word best."""
    term = node.aim.term
    return dense_ranks(term[1]) if term[0] == "best" else None


def player_ranks(game):
    """Return the dense ranks of the players of the plan table."""
    ranks = {}
    for number, node in enumerate(game.nodes):
        told = node_ranks(node)
        if told is None or ranks.get(node.player, told) != told:
            raise NotOrders(number)
        ranks[node.player] = told
    return [ranks[player] for player in sorted(ranks)]


def require_plan_table(game):
    """Return the numbers of options and the dense ranks of the players of the plan table, if there can be one."""
    if len(game.nodes) == 0:
        raise OutOfRange("the game has a node")
    ranks = player_ranks(game)
    if len(ranks) > TableGame.MOST_PLAYERS:
        raise TooLarge("a table game has at most 4 players")
    sizes = tuple([count_choices(widths_at(game, numbers)) for numbers in player_nodes(game)])
    require_table_size(sizes)
    return (sizes, ranks)


def meant_plan(game, play):
    """Return the plan for which a play of the plan table stands."""
    plan = [0] * len(game.nodes)
    for numbers, index in zip(player_nodes(game), play):
        for number, option in zip(numbers, choice_at(widths_at(game, numbers), index)):
            plan[number] = option
    return tuple(plan)


def table_of(entries, sizes):
    """Return the table of the sizes with these entries, from left to right."""
    parts = entries
    for size in sizes[:0:-1]:
        parts = [tuple(parts[start:start + size]) for start in range(0, len(parts), size)]
    return tuple(parts)


def plan_table(game):
    """Return the plan table of the game."""
    sizes, ranks = require_plan_table(game)
    entries = [game.ends[played_to(game, meant_plan(game, play))[1]] for play in all_choices(sizes)]
    return TableGame(game.outcomes, table_of(entries, sizes), tuple([("best", order) for order in ranks]))


def play_of(game, plan):
    """Return the play of the plan table that stands for the plan."""
    require_plan_table(game)
    require_plan(game, plan)
    play = []
    for numbers in player_nodes(game):
        play.append(choice_index(widths_at(game, numbers), tuple([plan[number] for number in numbers])))
    return tuple(play)


def plan_of(game, play):
    """Return the plan for which the play of the plan table stands."""
    sizes, _ = require_plan_table(game)
    require_whole(sizes, play)
    return meant_plan(game, play)


def in_turn_game(tablegame):
    """Return the game in which the players of the table game choose one after another."""
    for aim in tablegame.aims:
        if not is_small(aim.options, aim.outcomes):
            raise TooLarge("the size of the aim of a player is not small")
    levels = tuple([(player, aim.term, aim.options) for player, aim in enumerate(tablegame.aims)])
    ends = tuple([entry_at(tablegame.table, play) for play in all_choices(tablegame.sizes)])
    return level_game(tablegame.outcomes, levels, ends)
