"""Games: trees of decisions."""

from choosersrow.aims import Aim
from choosersrow.errors import InvalidAim, InvalidGame, OutOfRange, TooLarge
from choosersrow.sizes import has_outcomes, is_context, is_small, segments_of
from choosersrow.terms import is_below, read_headed, write_term

PLAYERS = 8
# In the term of a node, this many items stand before the trees.
ITEMS_BEFORE = 3


def has_form(part, word, outcomes):
    """Return whether an end, or what begins with the word and lets a player choose, is not wrong itself."""
    if not isinstance(part, tuple) or len(part) == 0:
        return False
    if part[0] == "end":
        return len(part) == 2
    return part[0] == word and is_small(len(part) - ITEMS_BEFORE, outcomes)


def checked_aims(tree, outcomes, path, level):
    """Return the aims of the nodes of a tree at the path and below so many nodes, in the order of the nodes."""
    if not has_form(tree, "node", outcomes) or (tree[0] == "node" and level >= Game.MOST_LEVELS):
        raise InvalidGame(path)
    aim = checked_aim(tree, outcomes, path)
    if aim is None:
        return []
    aims = [aim]
    for place in range(ITEMS_BEFORE, len(tree)):
        aims.extend(checked_aims(tree[place], outcomes, path + (place,), level + 1))
    return aims


def checked_aim(tree, outcomes, path):
    """Return the aim of a node or a choosing stand at the path, or None for an end; the rest is not looked at."""
    if tree[0] == "end":
        if not is_below(tree[1], outcomes):
            raise InvalidGame(path + (1,))
        return None
    if not is_below(tree[1], PLAYERS):
        raise InvalidGame(path + (1,))
    return placed_aim(tree[2], len(tree) - ITEMS_BEFORE, outcomes, path + (2,))


def placed_aim(term, options, outcomes, path):
    """Return the aim whose term is at the path."""
    try:
        return Aim(term, options, outcomes)
    except InvalidAim as error:
        raise InvalidGame(path + error.path) from error


def trees_behind(tree):
    """Return the trees behind the options of a tree; a leaf has none."""
    return tree[ITEMS_BEFORE:]


def placed_trees(tree, way):
    """Return the pairs of way and tree of a tree and of all trees behind it, in reading order."""
    placed = [(way, tree)]
    for option, below in enumerate(trees_behind(tree)):
        placed.extend(placed_trees(below, way + (option,)))
    return placed


def numbered_ways(placed):
    """Return for each way the pair of the kind and the number of its node or leaf."""
    numbered = {}
    nodes = 0
    leaves = 0
    for way, tree in placed:
        if tree[0] == "node":
            numbered[way] = ("node", nodes)
            nodes += 1
        else:
            numbered[way] = ("leaf", leaves)
            leaves += 1
    return numbered


def made_nodes(placed, aims):
    """Return the nodes of a game, given its trees with their ways and the aims of its nodes."""
    numbered = numbered_ways(placed)
    node_trees = [pair for pair in placed if pair[1][0] == "node"]
    nodes = []
    for (way, tree), aim in zip(node_trees, aims):
        children = [numbered[way + (option,)] for option in range(aim.options)]
        nodes.append(Node(way, tree[1], aim, tuple(children)))
    return tuple(nodes)


def count_leaves(tree):
    """Return the number of leaves of a tree."""
    if tree[0] == "end":
        return 1
    return sum([count_leaves(below) for below in trees_behind(tree)])


def tree_with_leaves(tree, trees):
    """Return the tree with other trees in the places of its leaves."""
    if tree[0] == "end":
        return trees[0]
    below = trees_behind(tree)
    shares = segments_of([count_leaves(part) for part in below], trees)
    return tree[:ITEMS_BEFORE] + tuple([tree_with_leaves(part, share) for part, share in zip(below, shares)])


class Node:
    """A node of a game; only games create it."""

    def __init__(self, way, player, aim, children):
        self.way = way
        self.player = player
        self.aim = aim
        self.children = children


class Game:
    """A game: a number of outcomes and a tree."""

    MOST_NODES = 30
    MOST_LEAVES = 60
    MOST_LEVELS = 12

    def __init__(self, outcomes, tree):
        if not has_outcomes(outcomes):
            raise OutOfRange("a game has 1 to 4 outcomes")
        aims = checked_aims(tree, outcomes, (), 0)
        placed = placed_trees(tree, ())
        ends = tuple([part[1] for _, part in placed if part[0] == "end"])
        if len(aims) > Game.MOST_NODES or len(ends) > Game.MOST_LEAVES:
            raise TooLarge("a game has at most 30 nodes and at most 60 leaves")
        self.outcomes = outcomes
        self.tree = tree
        self.nodes = made_nodes(placed, aims)
        self.ends = ends

    def __iter__(self):
        return iter(self.nodes)

    @property
    def plans(self):
        """The number of plans."""
        many = 1
        for node in self.nodes:
            many = many * len(node.children)
        return many

    def with_ends(self, ends):
        """Return the game with other ends."""
        if not is_context(ends, len(self.ends), self.outcomes):
            raise OutOfRange("the ends are a tuple of one outcome for each leaf")
        leaves = tuple([("end", outcome) for outcome in ends])
        return Game(self.outcomes, tree_with_leaves(self.tree, leaves))

    def part(self, way):
        """Return the part of the game at the way."""
        tree = self.tree
        for option in way:
            below = trees_behind(tree)
            if not is_below(option, len(below)):
                raise OutOfRange("the way leads nowhere")
            tree = below[option]
        return Game(self.outcomes, tree)

    def text(self):
        """Return the text of the game."""
        return write_term(("game", self.outcomes, self.tree))

    @staticmethod
    def read(text):
        """Return the game with the text."""
        term = read_headed(text, "game", 3, 1)
        return Game(term[1], term[2])
