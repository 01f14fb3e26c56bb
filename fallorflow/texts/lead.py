"""Programs led to systems, and their runs led to those of the plain machine and back."""
from fallorflow.base.plain import grown, opposite_of, put, unit, units
from fallorflow.errors import InvalidText, TooMany
from fallorflow.rules.machine import run
from fallorflow.rules.system import System
from fallorflow.texts.places import places_of
from fallorflow.texts.programs import is_program, variables_of
from fallorflow.texts.spoken import MOST_OUTSIDE, check_given, check_start, worked_through

LETTERS = "abcdefghijklmnopqrstuvwxyz"


def system_of(program):
    """The system that a program is led to."""
    if not is_program(program):
        raise InvalidText("not a program")
    places, firsts = places_of(program)
    functions = tuple([(_name(number), place.many) for number, place in enumerate(places)])
    rules = []
    for number, place in enumerate(places):
        rules.extend(_rules_at(number, place, firsts, places))
    return System(functions, tuple(rules), _start_rows(program))


def _name(number):
    return LETTERS[number // len(LETTERS)] + LETTERS[number % len(LETTERS)]


def _start_rows(program):
    first = program[0][0]
    many = variables_of(first)
    rows = [grown(form, many) for form in program[1]]
    for at in range(len(first[1]), many):
        local = unit(at, many)
        rows.extend([local, put((0, -1), (local,), many)])
    return tuple(rows)


def _rules_at(number, place, firsts, places):
    # The rules of a place, its number being that of its function.
    many, statement = place.many, place.statement
    if statement is None:
        return [(number, 0, (), 0, (), grown((0,), many))]
    word = statement[0]
    if word == "give":
        return [(number, 0, (), 0, (), statement[1])]
    same = units(many, many)
    if word in ("if", "while"):
        return [_going(number, many, guard, goal, same) for guard, goal in _ways(statement[1], place.goals)]
    if word == "choose":
        return [_going(number, many, (), goal, same) for goal in place.goals]
    if word == "call":
        return [_calling(number, place, firsts[statement[1]], places)]
    if word == "any":
        return [_asking(number, place)]
    if word == "set":
        same = _changed(same, statement[1], statement[2])
    rule = _going(number, many, (), place.goals[0], same)
    return [(*rule[:3], statement[1], *rule[4:])] if word == "pay" else [rule]


def _going(number, many, guard, goal, forms):
    # A rule that costs nothing and calls the place that follows.
    return (number, 0, guard, 0, ((goal, forms),), unit(many, many + 1))


def _ways(tests, goals):
    found = [(tests, goals[0])]
    for at, test in enumerate(tests):
        found.append(((*tests[:at], opposite_of(test)), goals[1]))
    return found


def _changed(forms, at, form):
    return (*forms[:at], form, *forms[at + 1:])


def _asking(number, place):
    many = place.many
    variable, tests = place.statement[1:]
    forms = _changed(units(many, many + 1), variable, unit(many, many + 1))
    guard = tuple([put(test, forms, many + 1) for test in tests])
    return (number, 1, guard, 0, ((place.goals[0], forms),), unit(many + 1, many + 2))


def _calling(number, place, first, places):
    many = place.many
    forms, variable = place.statement[2:]
    zeros = [grown((0,), many) for _ in range(places[first].many - len(forms))]
    behind = units(many, many + 1)
    if variable is not None:
        behind = _changed(behind, variable, unit(many, many + 1))
    calls = ((first, (*forms, *zeros)), (place.goals[0], behind))
    return (number, 0, (), 0, calls, unit(many + 1, many + 2))


def full_inputs(program, inputs):
    """The inputs with 0 for each local of the first procedure."""
    check_start(program, inputs)
    check_given(program, inputs)
    return (*inputs, *[0 for _ in program[0][0][2]])


def choices_of(program, inputs, outside, most):
    """The choices of the plain machine for the steps of a program."""
    _, work = worked_through(program, inputs, outside, most)
    return tuple(work.taken)


def outside_of(program, inputs, choices):
    """The outside that choices of the plain machine are led back to."""
    full = full_inputs(program, inputs)
    run(system_of(program), full, choices)
    ways = _ways_told(program)
    found = []
    for rule, unknowns in choices:
        found.extend(unknowns)
        if rule in ways:
            found.append(ways[rule])
    if len(found) > MOST_OUTSIDE:
        raise TooMany(MOST_OUTSIDE)
    return tuple(found)


def _ways_told(program):
    # For each rule of a `choose` the number that takes it.
    found = {}
    for place in places_of(program)[0]:
        if place.statement is not None and place.statement[0] == "choose":
            for way in range(len(place.goals)):
                found[place.first_rule + way] = way
    return found
