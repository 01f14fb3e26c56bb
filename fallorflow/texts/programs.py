"""What is a program of the small language."""
from fallorflow.base.checks import is_from, is_name, is_row_within
from fallorflow.rules.system import MAX_COST, MAX_FUNCTIONS, MAX_GUARD, MAX_PARAMETERS, MAX_RULES

WORDS = (
    "proc", "with", "given", "any", "where", "pay", "give", "if", "else", "while", "choose", "or", "call", "end", "and",
)
MOST_PROCEDURES = 6
MOST_TESTS = 4
MOST_BODIES = 4
MOST_NUMBER = 100000
MOST_DEPTH = 6


def is_program(value):
    """Whether the value is a program."""
    if not isinstance(value, tuple) or len(value) != 2:
        return False
    procedures, given = value
    if not isinstance(procedures, tuple) or not 1 <= len(procedures) <= MOST_PROCEDURES:
        return False
    if not all([is_head(procedure) for procedure in procedures]):
        return False
    if len({procedure[0]: True for procedure in procedures}) < len(procedures):
        return False
    return _is_given(procedures[0], given) and _are_bodies_fit(procedures)


def is_word(value):
    """Whether the value is a name, and none of the words of the language."""
    return is_name(value) and value not in WORDS


def is_head(value):
    """Whether the value is formed as a procedure, whatever its body is."""
    if not isinstance(value, tuple) or len(value) != 4 or not is_word(value[0]):
        return False
    parameters, inner = value[1], value[2]
    if not isinstance(parameters, tuple) or not isinstance(inner, tuple):
        return False
    variables = (*parameters, *inner)
    if len(variables) > MAX_PARAMETERS or not all([is_word(name) for name in variables]):
        return False
    return len({name: True for name in variables}) == len(variables)


def _is_given(first, value):
    if not isinstance(value, tuple) or len(value) + 2 * len(first[2]) > MAX_GUARD:
        return False
    return _are_forms(len(first[1]), value)


def _is_form(many, value):
    return is_row_within(MOST_NUMBER, many + 1, value)


def _are_forms(many, value):
    return all([_is_form(many, form) for form in value])


def variables_of(procedure):
    """How many variables a procedure has."""
    return len(procedure[1]) + len(procedure[2])


def _are_bodies_fit(procedures):
    # Each statement is counted ahead of what is within it: so a body that comes
    # in many places is not looked at more often than a program lets.
    places = rules = len(procedures)
    for procedure in procedures:
        ahead = [(procedure[3], 1)]
        while ahead:
            body, depth = ahead.pop()
            if not isinstance(body, tuple) or depth > MOST_DEPTH:
                return False
            for statement in body:
                places = places + 1
                if places > MAX_FUNCTIONS or not _is_statement(procedures, procedure, statement):
                    return False
                rules = rules + rules_of(statement)
                ahead.extend([(inner, depth + 1) for inner in bodies_of(statement)])
    return rules <= MAX_RULES


def bodies_of(statement):
    """The bodies that stand in a statement."""
    if statement[0] == "choose":
        return statement[1]
    return statement[2:] if statement[0] in ("if", "while") else ()


def rules_of(statement):
    """How many rules a statement is led to."""
    if statement[0] == "choose":
        return len(statement[1])
    return 1 + len(statement[1]) if statement[0] in ("if", "while") else 1


def _is_statement(procedures, procedure, value):
    if not isinstance(value, tuple) or not value or not isinstance(value[0], str):
        return False
    many = variables_of(procedure)
    word, parts = value[0], value[1:]
    if word == "set":
        return len(parts) == 2 and is_from(0, many - 1, parts[0]) and _is_form(many, parts[1])
    if word == "any":
        return len(parts) == 2 and is_from(0, many - 1, parts[0]) and _are_tests(many, 0, parts[1])
    if word == "pay":
        return len(parts) == 1 and is_from(0, MAX_COST, parts[0])
    if word == "give":
        return len(parts) == 1 and _is_form(many, parts[0])
    if word == "if":
        return len(parts) == 3 and _are_tests(many, 1, parts[0])
    if word == "while":
        return len(parts) == 2 and _are_tests(many, 1, parts[0])
    if word == "choose":
        return len(parts) == 1 and isinstance(parts[0], tuple) and 2 <= len(parts[0]) <= MOST_BODIES
    return word == "call" and len(parts) == 3 and _is_call(procedures, many, parts)


def _are_tests(many, least, value):
    return isinstance(value, tuple) and least <= len(value) <= MOST_TESTS and _are_forms(many, value)


def _is_call(procedures, many, parts):
    callee, forms, variable = parts
    if not is_from(0, len(procedures) - 1, callee) or not isinstance(forms, tuple):
        return False
    if len(forms) != len(procedures[callee][1]) or not _are_forms(many, forms):
        return False
    return variable is None or is_from(0, many - 1, variable)
