"""The places of a program, numbered, and where each rule of a place leads to.

A place tells all that is still to be done in a frame, as what stands there is
done first, and each place knows the one that follows.
"""
from fallorflow.texts.programs import bodies_of, rules_of, variables_of


class Place:
    """What is done at a place: a statement, or None at the end of a procedure.

    It has the number of its procedure's variables, the number of its first
    rule, and the places that its rules lead to, the last call of each one. The
    rules of a test that fails all lead to one place, that stands once.
    """

    def __init__(self, many, statement, first_rule, goals):
        self.many = many
        self.statement = statement
        self.first_rule = first_rule
        self.goals = goals


def places_of(program):
    """The list of all places, and the list of the first place of each procedure."""
    found = []
    firsts = []
    for procedure in program[0]:
        firsts.append(len(found))
        end = len(found) + _size(procedure[3])
        _lay(found, variables_of(procedure), procedure[3], end)
        found.append(Place(variables_of(procedure), None, _next_rule(found), ()))
    return (found, firsts)


def _size(body):
    return sum([1 + sum([_size(inner) for inner in bodies_of(statement)]) for statement in body])


def _next_rule(found):
    if not found:
        return 0
    last = found[-1]
    return last.first_rule + (1 if last.statement is None else rules_of(last.statement))


def _lay(found, many, body, behind):
    # Lays the places of a body behind those that are found.
    for at, statement in enumerate(body):
        here = len(found)
        follower = behind
        if at + 1 < len(body):
            follower = here + _size((statement,))
        back = here if statement[0] == "while" else follower
        found.append(Place(many, statement, _next_rule(found), _goals(statement, here, back, follower)))
        for inner in bodies_of(statement):
            _lay(found, many, inner, back)


def _goals(statement, here, back, follower):
    if statement[0] == "give":
        return ()
    goals = []
    begin = here + 1
    for inner in bodies_of(statement):
        goals.append(begin if inner else back)
        begin = begin + _size(inner)
    if statement[0] not in ("if", "choose"):
        goals.append(follower)
    return tuple(goals)
