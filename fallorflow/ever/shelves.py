"""Moves of plain counters, their turns, walks and shelves, nothing being asked of what is passed.

A system of plain counters is told as the dict of its moves, by their rules.
"""
from fallorflow.base.checks import is_long_row, is_whole
from fallorflow.base.plain import reduced, unit
from fallorflow.lots.answers import solved_equations
from fallorflow.rules.ways import parted


class Move:
    """A move: the functions it leads from and to, its effect, and for each parameter its greatest least."""

    def __init__(self, rule):
        self.source = rule[0]
        self.goal, forms = rule[4][0]
        self.effect = tuple([form[0] for form in forms])
        self.leasts = []
        for at in range(len(forms)):
            self.leasts.append(max([-row[0] for row in rule[2] if row[at + 1] == 1]))


def moves_of(system):
    """The dict from the rules of the moves of plain counters to these, or None for another system."""
    many = system.functions[0][1]
    if many == 0 or any([pair[1] != many for pair in system.functions]):
        return None
    told = [unit(at, many)[1:] for at in range(many)]
    found = {}
    for index, (_, unknowns, guard, _, calls, _) in enumerate(system.rules):
        if unknowns or len(calls) > 1 or any([row[1:] not in told for row in guard]):
            return None
        if calls:
            asked = [row[1:] for row in guard]
            if any([line not in asked for line in told]) or [form[1:] for form in calls[0][1]] != told:
                return None
            found[index] = Move(system.rules[index])
    return found


def parts_by(moves, lot):
    """The list of the parts of a lot of moves."""
    return parted(lot, [(moves[rule].source, moves[rule].goal) for rule in lot])[0]


def _balances(moves, turns):
    # For each function how many turns lead to it, less those from it; the sum of all effects.
    even = {}
    total = [0 for _ in moves[turns[0][0]].effect]
    for rule, times in turns:
        move = moves[rule]
        even[move.source] = even.get(move.source, 0) - times
        even[move.goal] = even.get(move.goal, 0) + times
        total = [mine + times * yours for mine, yours in zip(total, move.effect)]
    return (even, total)


def are_turns(moves, value):
    """Whether the value is even and joined turns that lose nothing."""
    if not isinstance(value, tuple) or not value:
        return False
    if not all([is_long_row(2, pair) and pair[0] in moves and pair[1] >= 1 for pair in value]):
        return False
    rules = [pair[0] for pair in value]
    if any([rules[at] >= rules[at + 1] for at in range(len(rules) - 1)]):
        return False
    even, total = _balances(moves, value)
    if any(list(even.values())) or min(total) < 0:
        return False
    # Even turns that are joined are those of one component.
    return len(parts_by(moves, rules)) == 1


def _found_turns(moves, part, rule):
    """("solution", times) of even turns of a part with one of its moves that lose nothing, or ("clash", shelves)."""
    functions = sorted({moves[other].source: True for other in part})
    places = {function: at for at, function in enumerate(functions)}
    many = len(moves[rule].effect)
    equations = [[0] * (1 + len(part) + many) for _ in range(len(functions) + many + 1)]
    for at, other in enumerate(part, start=1):
        move = moves[other]
        to, back = equations[places[move.goal]], equations[places[move.source]]
        to[at] = to[at] - 1
        back[at] = back[at] + 1
        for place, number in enumerate(move.effect):
            equations[len(functions) + place][at] = number
    for place in range(many):
        equations[len(functions) + place][1 + len(part) + place] = -1
    equations[-1][0] = -1
    equations[-1][1 + part.index(rule)] = 1
    word, found = solved_equations([True] * (len(part) + many), [tuple(row) for row in equations])
    if word == "solution":
        return (word, found[1:1 + len(part)])
    heights = {function: -found[at] for function, at in places.items()}
    return (word, (found[len(functions):-1], heights))


def drop_of(move, weights, heights):
    """What a move drops by, as a number that is at most 0 if it does not rise."""
    total = heights[move.goal] - heights[move.source]
    return total + sum([weight * number for weight, number in zip(weights, move.effect)])


def turns_or_falls(moves, part):
    """("turns", turns) with all moves of a part, or ("shelves", weights, heights, left), the moves that are left being
    those that no shelves let fall."""
    times = {rule: 0 for rule in part}
    fallen = {}
    weights = [0 for _ in moves[part[0]].effect]
    heights = {moves[rule].source: 0 for rule in part}
    for rule in part:
        if times[rule] == 0 and rule not in fallen:
            word, found = _found_turns(moves, part, rule)
            if word == "solution":
                times = {other: times[other] + number for other, number in zip(part, found)}
            else:
                weights = [mine + yours for mine, yours in zip(weights, found[0])]
                heights = {function: number + found[1][function] for function, number in heights.items()}
                for other in part:
                    if drop_of(moves[other], found[0], found[1]) < 0:
                        fallen[other] = True
    if not fallen:
        return ("turns", tuple(list(zip(part, reduced([times[rule] for rule in part])))))
    return ("shelves", tuple(weights), heights, [rule for rule in part if rule not in fallen])


class Shelf:
    """A part with its shelves, and the shelves within it: a changing class."""

    def __init__(self, part, shelves):
        self.part = part
        self.shelves = shelves
        self.inner = []


def turns_or_tree(system, moves):
    """("turns", turns) or ("shelves", tree) for all moves."""
    shelves = []
    order = []
    ahead = [(list(moves), shelves)]
    while ahead:
        lot, found = ahead.pop()
        for part in parts_by(moves, lot):
            word, *told = turns_or_falls(moves, part)
            if word == "turns":
                return (word, told[0])
            weights, heights, left = told
            whole = tuple([heights.get(function, 0) for function in range(len(system.functions))])
            shelf = Shelf(part, (weights, whole))
            found.append(shelf)
            order.append(shelf)
            ahead.append((left, shelf.inner))
    trees = {}
    for shelf in reversed(order):
        trees[shelf] = (shelf.part, shelf.shelves, tuple([trees[inner] for inner in shelf.inner]))
    return ("shelves", tuple([trees[shelf] for shelf in shelves]))


def _are_shelves(moves, many, part, value):
    if not isinstance(value, tuple) or len(value) != 2:
        return False
    weights, heights = value
    if not is_long_row(len(moves[part[0]].effect), weights) or min(weights) < 0 or not is_long_row(many, heights):
        return False
    drops = [drop_of(moves[rule], weights, heights) for rule in part]
    return max(drops) <= 0 and min(drops) < 0


def is_tree_of_shelves(system, moves, value):
    """Whether the value is a shelf tree for all moves."""
    many = len(system.functions)
    ahead = [(list(moves), value)]
    while ahead:
        lot, told = ahead.pop()
        parts = parts_by(moves, lot)
        if not isinstance(told, tuple) or len(told) != len(parts):
            return False
        for part, triple in zip(parts, told):
            if not isinstance(triple, tuple) or len(triple) != 3 or not is_long_row(len(part), triple[0]):
                return False
            if triple[0] != part or not _are_shelves(moves, many, part, triple[1]):
                return False
            weights, heights = triple[1]
            ahead.append(([rule for rule in part if drop_of(moves[rule], weights, heights) == 0], triple[2]))
    return True


def is_walk(most, moves, value):
    """Whether the value is a closed walk of at most so many moves."""
    if not isinstance(value, tuple) or not 1 <= len(value) <= most:
        return False
    if not all([is_whole(rule) and rule in moves for rule in value]):
        return False
    return all([moves[rule].goal == moves[other].source for rule, other in zip(value, (*value[1:], value[0]))])


def walk_by(moves, turns):
    """A closed walk with even and joined turns."""
    left = {}
    for rule, times in turns:
        left.setdefault(moves[rule].source, []).extend([rule] * times)
    way, found = [], []
    place = moves[turns[0][0]].source
    # Where nothing leads on, the way is closed: it is told from its end, and goes on where something is left.
    while True:
        if left.get(place):
            way.append(left[place].pop())
            place = moves[way[-1]].goal
        elif way:
            found.append(way.pop())
            place = moves[found[-1]].source
        else:
            return tuple(reversed(found))


def need_by(moves, walk):
    """For each parameter what a walk asks of it at its beginning."""
    added = [0 for _ in moves[walk[0]].effect]
    need = None
    for rule in walk:
        asked = [least - number for least, number in zip(moves[rule].leasts, added)]
        need = asked if need is None else [max(mine, yours) for mine, yours in zip(need, asked)]
        added = [mine + yours for mine, yours in zip(added, moves[rule].effect)]
    return tuple(need)
