"""Systems of functions and rules, their call edges, keeps, and rows ahead of calls."""
from fallorflow.base.checks import is_ascending, is_from, is_long_lot, is_lot
from fallorflow.base.plain import grown, put, unit
from fallorflow.errors import InvalidKeep, InvalidNumber, InvalidSystem
from fallorflow.rules.faults import functions_fault, given_fault, rules_fault
from fallorflow.rules.ways import parted, reached_from

MAX_FUNCTIONS = 40
MAX_RULES = 80
MAX_PARAMETERS = 5
MAX_UNKNOWNS = 2
MAX_CALLS = 2
MAX_GUARD = 8
MAX_COST = 1000
MAX_FACTOR = 1000000
MAX_KEPT = 12


def _bounds():
    return {
        "rules": MAX_RULES,
        "unknowns": MAX_UNKNOWNS,
        "calls": MAX_CALLS,
        "guard": MAX_GUARD,
        "cost": MAX_COST,
        "factor": MAX_FACTOR,
    }


def system_fault(functions, rules, given=()):
    """The first fault of what is to be a system, None if there is none."""
    fault = functions_fault(MAX_FUNCTIONS, MAX_PARAMETERS, functions)
    if fault is None:
        fault = rules_fault(_bounds(), functions, rules)
    if fault is None:
        fault = given_fault(_bounds(), functions, given)
    return fault


class System:
    """Functions, rules and start rows; it never changes."""

    def __init__(self, functions, rules, given=()):
        if system_fault(functions, rules, given) is not None:
            raise InvalidSystem("the functions, rules and start rows make no system")
        self._functions = functions
        self._rules = rules
        self._start_rows = given

    @property
    def functions(self):
        """The pairs of a name and a number of parameters."""
        return self._functions

    @property
    def rules(self):
        """The tuples (function, unknowns, guard, cost, calls, result)."""
        return self._rules

    @property
    def start_rows(self):
        """The rows that hold at the inputs."""
        return self._start_rows

    def __eq__(self, other):
        return (
            isinstance(other, System)
            and self._functions == other._functions
            and self._rules == other._rules
            and self._start_rows == other._start_rows
        )

    def __str__(self):
        return f"system of {len(self._functions)} functions, {len(self._rules)} rules"


def check_system(system):
    """Refuse what is no system."""
    if not isinstance(system, System):
        raise InvalidSystem("not a system")


def all_edges(system):
    """The call edges of a system."""
    return tuple([(index, number) for index, rule in enumerate(system.rules) for number in range(len(rule[4]))])


def edge_source(system, edge):
    """The function of an edge's rule."""
    return system.rules[edge[0]][0]


def edge_goal(system, edge):
    """The callee of an edge."""
    return system.rules[edge[0]][4][edge[1]][0]


def is_edge_of(system, value):
    """Whether the value is a call edge of a system."""
    if not isinstance(value, tuple) or len(value) != 2 or not is_from(0, len(system.rules) - 1, value[0]):
        return False
    return is_from(0, len(system.rules[value[0]][4]) - 1, value[1])


def check_edge(system, edge):
    """Refuse what is no call edge of the system."""
    if not is_edge_of(system, edge):
        raise InvalidSystem("not a call edge of the system")


def are_edges_of(system, value):
    """Whether the value is an ascending tuple of call edges of a system."""
    return isinstance(value, tuple) and all([is_edge_of(system, edge) for edge in value]) and is_ascending(value)


def check_edges(system, edges):
    """Refuse what is no ascending tuple of call edges of the system."""
    if not are_edges_of(system, edges):
        raise InvalidSystem("not an ascending tuple of call edges of the system")


def edges(system):
    """All call edges (rule, number of the call), ascending."""
    check_system(system)
    return all_edges(system)


def source(system, edge):
    """The function of the edge's rule."""
    check_system(system)
    check_edge(system, edge)
    return edge_source(system, edge)


def goal(system, edge):
    """The function that the edge calls."""
    check_system(system)
    check_edge(system, edge)
    return edge_goal(system, edge)


def arguments(system, edge):
    """The arguments of the edge's call."""
    check_system(system)
    check_edge(system, edge)
    return system.rules[edge[0]][4][edge[1]][1]


def _arrows(system, lot):
    return [(edge_source(system, edge), edge_goal(system, edge)) for edge in lot]


def parts(system, edges):
    """The components of the edges, and those that are on no ring."""
    check_system(system)
    check_edges(system, edges)
    components, through = parted(edges, _arrows(system, edges))
    return (tuple(components), through)


def reached(system, edges):
    """The functions to which rows of the edges lead from the function 0, itself with them."""
    check_system(system)
    check_edges(system, edges)
    return tuple(reached_from(0, _arrows(system, edges)))


def is_keep(system, value):
    """Whether the value is a keep of the system."""
    check_system(system)
    if not _has_lots(system, value):
        return False
    for further, lots in enumerate(value):
        if not all([is_lot(pair[1] + further, MAX_KEPT, lot) for pair, lot in zip(system.functions, lots)]):
            return False
    return True


def _has_lots(system, value):
    # Rows of entries are over the parameters, those of results over one more value.
    if not isinstance(value, tuple) or len(value) != 2:
        return False
    return all([isinstance(lots, tuple) and len(lots) == len(system.functions) for lots in value])


def is_long_keep(system, value):
    """Whether the value is a keep of a system, but for integers of any length."""
    if not _has_lots(system, value):
        return False
    for further, lots in enumerate(value):
        if not all([is_long_lot(pair[1] + further, MAX_KEPT, lot) for pair, lot in zip(system.functions, lots)]):
            return False
    return True


def check_keep(system, keep):
    """Refuse what is no keep of the system."""
    if not is_keep(system, keep):
        raise InvalidKeep("not a keep of the system")


def empty_keep(system):
    """The keep without any row."""
    check_system(system)
    lots = tuple([() for _ in system.functions])
    return (lots, lots)


def rows_ahead(system, keep, rule, number):
    """How many values there are ahead of a call of a rule, and what is told of them."""
    check_system(system)
    check_keep(system, keep)
    if not is_from(0, len(system.rules) - 1, rule):
        raise InvalidNumber(rule)
    if not is_from(0, len(system.rules[rule][4]), number):
        raise InvalidNumber(number)
    return told_ahead(system, keep, rule, number)


def told_ahead(system, keep, rule, number):
    """The same, nothing being asked of what is passed."""
    function, unknowns, guard = system.rules[rule][:3]
    first = system.functions[function][1] + unknowns
    many = first + number
    rows = [grown(row, many) for row in (*keep[0][function], *guard)]
    for place in range(number):
        callee, forms = system.rules[rule][4][place]
        inner = (*[grown(form, many) for form in forms], unit(first + place, many))
        rows.extend([put(row, inner, many) for row in keep[1][callee]])
    return (many, tuple(rows))


def edge_rows(system, keep, edge):
    """What is told of the values ahead of the call of an edge."""
    check_system(system)
    check_keep(system, keep)
    check_edge(system, edge)
    return told_ahead(system, keep, edge[0], edge[1])
