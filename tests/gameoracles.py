"""The words of the document about plans said once more over ways, so that the tests do not lean on the program."""

import functools
import itertools
import random

from choosersrow.games import Game
from tests.oracles import drawn_term, good_options
from tests.test_games import walked

LEAF = ("end", 0)


@functools.cache
def told_good(term, context, outcomes):
    return good_options(term, context, outcomes)


@functools.cache
def parts_of(tree):
    """Return the tuple of the pairs of way and tree in reading order."""
    return tuple(walked(tree))


@functools.cache
def nodes_of(tree):
    return tuple((way, part) for way, part in parts_of(tree) if part[0] == "node")


@functools.cache
def leaves_of(tree):
    return tuple((way, part) for way, part in parts_of(tree) if part[0] == "end")


def ends_of(tree):
    return tuple(part[1] for _, part in leaves_of(tree))


def all_plans(tree):
    """Return all plans in ascending order."""
    return list(itertools.product(*[range(len(part) - 3) for _, part in nodes_of(tree)]))


def led_to(tree, plan, way):
    """Return the way to the leaf that one comes to from the way on by following the plan."""
    steps = {at: option for (at, _), option in zip(nodes_of(tree), plan, strict=True)}
    while way in steps:
        way = way + (steps[way],)
    return way


def outcome_at(tree, plan, way):
    return dict(leaves_of(tree))[led_to(tree, plan, way)][1]


def told_leaf(tree, plan):
    """Return the number of the leaf to which the plan comes."""
    return [way for way, _ in leaves_of(tree)].index(led_to(tree, plan, ()))


def told_outcomes(tree, plan):
    return tuple(outcome_at(tree, plan, way) for way, _ in nodes_of(tree))


def told_contexts(tree, plan):
    return tuple(tuple(outcome_at(tree, plan, way + (x,)) for x in range(len(part) - 3))
                 for way, part in nodes_of(tree))


def told_faulty(tree, plan, outcomes):
    found = zip(nodes_of(tree), told_contexts(tree, plan), plan, strict=True)
    return tuple(number for number, ((_, part), context, option) in enumerate(found)
                 if option not in told_good(part[2], context, outcomes))


@functools.cache
def told_optimal(tree, outcomes):
    """Return the tuple of all optimal plans in ascending order."""
    return tuple(plan for plan in all_plans(tree) if not told_faulty(tree, plan, outcomes))


def ascending(numbers):
    return tuple(sorted(set(numbers)))


def with_ends(tree, ends):
    """Return the tree with other ends."""
    rest = iter(ends)

    def other(part):
        if part[0] == "end":
            return ("end", next(rest))
        return part[:3] + tuple([other(below) for below in part[3:]])
    return other(tree)


def drawn_branch(source, outcomes, depth, leaf=0.3):
    """Return a tree drawn from the random source, at most so deep; a part of the trees are leaves."""
    if depth == 0 or source.random() < leaf:
        return ("end", source.randrange(outcomes))
    options = source.choice([1, 2, 2, 2, 3, 3, 4])
    term = source.choice([drawn_term(source, options, outcomes, 3), drawn_term(source, options, outcomes, 1),
                          ("best", tuple(source.randrange(3) for _ in range(outcomes))), ("any",)])
    behind = tuple(drawn_branch(source, outcomes, depth - 1, leaf) for _ in range(options))
    return ("node", source.randrange(8), term) + behind


def drawn_games(seed, many, most=150):
    """Return games with at most so many plans, among them games without nodes and with one."""
    source = random.Random(seed)
    found = [Game(3, ("end", 2)), Game(2, ("node", 1, ("best", (0, 1)), ("end", 0), ("end", 1), ("end", 1))),
             Game(2, ("node", 7, ("fixed",), ("end", 1), ("end", 0))), Game(1, ("node", 0, ("any",), LEAF))]
    while len(found) < many:
        outcomes = source.randrange(1, 5)
        tree = drawn_branch(source, outcomes, source.randrange(1, 5), 0.25)
        if len(nodes_of(tree)) <= 30 and len(leaves_of(tree)) <= 60 and Game(outcomes, tree).plans <= most:
            found.append(Game(outcomes, tree))
    return found


def chain(term, many=12, tail=LEAF, side=("end", 1)):
    """Return a tree of so many nodes, one behind another, each of them with a leaf as its last option."""
    for _ in range(many):
        tail = ("node", 0, term, tail, side)
    return tail


def large_tree(term_of, end_of):
    """Return a tree with 30 nodes, 60 leaves and 2 * 3 ** 29 plans; one way goes through 12 nodes."""
    numbers = itertools.count()

    def leaf():
        return ("end", end_of(next(numbers)))

    def node(*trees):
        return ("node", len(trees), term_of(len(trees))) + trees

    sides = [node(*[leaf() for _ in range(3 if many else 2)]) for many in range(18)] + [leaf() for _ in range(4)]
    tail = node(leaf(), leaf(), leaf())
    for _ in range(11):
        tail = node(sides.pop(0), tail, sides.pop())
    return tail


def large_game(word, outcomes=3):
    """Return the game with the large tree in which each node has the aim with the one word."""
    return Game(outcomes, large_tree(lambda options: (word,), lambda number: number * number % outcomes))
