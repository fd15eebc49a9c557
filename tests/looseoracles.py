"""The words of the document about loose games said once more over ways, so that the tests do not lean on the program."""

import itertools
import random

from choosersrow.loosegames import LooseGame
from tests.gameoracles import told_good
from tests.oracles import drawn_term

ANY = ("any",)


def loose_text(body, outcomes=2):
    return LooseGame.read(f"(loose {outcomes} ({body}))")


def options_of(stand):
    return range(len(stand) - 3)


def visits(stands, way):
    """Return the stands that the way visits, in order."""
    visited = [0]
    for option in way:
        visited.append(stands[visited[-1]][3 + option])
    return visited


def told_reached(stands):
    found = {0}
    while True:
        more = found | {target for number in found for target in stands[number][3:]}
        if more == found:
            return tuple(sorted(found))
        found = more


def rounds(stands, way=()):
    """Yield the ways that come round in ascending order, those that begin with the way."""
    visited = visits(stands, way)
    if visited[-1] in visited[:-1]:
        yield way
        return
    for option in options_of(stands[visited[-1]]):
        yield from rounds(stands, way + (option,))


def told_round(stands):
    return next(rounds(stands), None)


def end_ways(stands, way=()):
    """Yield the ways that lead to end stands, with their end stands, from left to right."""
    number = visits(stands, way)[-1]
    if stands[number][0] == "end":
        yield way, number
    for option in options_of(stands[number]):
        yield from end_ways(stands, way + (option,))


def told_values(stands, outcomes):
    """Return the values of the stands, by going on until nothing changes any more."""
    values = {}
    reached = told_reached(stands)
    while len(values) < len(reached):
        for number in reached:
            stand = stands[number]
            if stand[0] == "end":
                values[number] = (stand[1],)
            elif all(target in values for target in stand[3:]):
                found = set()
                for context in itertools.product(*[values[target] for target in stand[3:]]):
                    found |= {context[option] for option in told_good(stand[2], context, outcomes)}
                values[number] = tuple(sorted(found))
    return tuple(values.get(number) for number in range(len(stands)))


def led_outcome(stands, plan, number):
    """Return the outcome of the stand to which the plan leads from the stand on."""
    while stands[number][0] == "stand":
        number = stands[number][3 + plan[number]]
    return stands[number][1]


def all_stand_plans(stands):
    reached = told_reached(stands)
    entries = [options_of(stand) if number in reached and stand[0] == "stand" else [None]
               for number, stand in enumerate(stands)]
    return list(itertools.product(*entries))


def told_stand_optimal(stands, plan, outcomes):
    for number in told_reached(stands):
        stand = stands[number]
        if stand[0] == "stand":
            context = tuple(led_outcome(stands, plan, target) for target in stand[3:])
            if plan[number] not in told_good(stand[2], context, outcomes):
                return False
    return True


def told_tree(stands, number, length=None, cut=None):
    """Return the tree of the ways from the stand on, cut after so many options if there is a length."""
    stand = stands[number]
    if stand[0] == "end":
        return stand
    if length == 0:
        return ("end", cut)
    rest = None if length is None else length - 1
    return ("node",) + stand[1:3] + tuple(told_tree(stands, target, rest, cut) for target in stand[3:])


def drawn_stands(source, outcomes, many, forward=True):
    """Return stands that are drawn from the random source; if forward, targets have greater numbers."""
    stands = []
    for number in range(many):
        if number == many - 1 or source.random() < 0.25 and number > 0:
            stands.append(("end", source.randrange(outcomes)))
            continue
        options = source.choice([1, 2, 2, 2, 3, 3])
        term = source.choice([drawn_term(source, options, outcomes, 2), ANY,
                              ("best", tuple(source.randrange(3) for _ in range(outcomes)))])
        least = number + 1 if forward else 0
        targets = tuple(source.randrange(least, many) for _ in range(options))
        stands.append(("stand", source.randrange(8), term) + targets)
    return tuple(stands)


def drawn_loose(seed, many, most=8, forward=True):
    """Return loose games; those with forward targets are not endless."""
    source = random.Random(seed)
    found = []
    for _ in range(many):
        outcomes = source.randrange(1, 5)
        found.append(LooseGame(outcomes, drawn_stands(source, outcomes, source.randrange(1, most + 1), forward)))
    return found


def ladder(steps, options=2, last=(("end", 0),)):
    """Return stands, each of which leads with all of its options to the next one: there are very many ways."""
    stands = tuple(("stand", 0, ANY) + (number + 1,) * options for number in range(steps))
    return stands + last
