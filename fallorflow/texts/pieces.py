"""Lines of texts of programs: what a line says, and the line that says it.

What a line says is read loosely; it stands only if just this line says it.
"""
from fallorflow.base.forms import form_text
from fallorflow.rules.system import MAX_COST, MAX_PARAMETERS
from fallorflow.texts.programs import MOST_NUMBER, MOST_TESTS, is_head, is_word

MOST_DIGITS = 6


def test_text(form, names):
    """The text of one test."""
    return f"{form_text(form, names)} >= 0"


def tests_text(tests, names):
    """The text of tests."""
    return " and ".join([test_text(form, names) for form in tests])


def head_text(head):
    """The line of a procedure's head (name, parameters, locals)."""
    name, parameters, inner = head
    words = ["proc", name, *parameters]
    if inner:
        words.extend(["with", *inner])
    return " ".join(words)


def statement_text(statement, names):
    """The first line of a statement, a call telling its procedure by its name."""
    word = statement[0]
    if word == "pay":
        return f"pay {statement[1]}"
    if word == "give":
        return f"give {form_text(statement[1], names)}"
    if word in ("if", "while"):
        return f"{word} {tests_text(statement[1], names)}"
    if word == "choose":
        return word
    if word == "call":
        return _call_text(statement, names)
    name = names[statement[1]]
    if word == "set":
        return f"{name} = {form_text(statement[2], names)}"
    return f"{name} = any where {tests_text(statement[2], names)}" if statement[2] else f"{name} = any"


def _call_text(statement, names):
    _, callee, forms, variable = statement
    text = ", ".join([form_text(form, names) for form in forms])
    text = f"call {callee} {text}" if forms else f"call {callee}"
    return text if variable is None else f"{names[variable]} = {text}"


def read_number(word, most):
    """The number that a word tells, None if it tells none up to the most."""
    if not word.isdigit() or len(word) > MOST_DIGITS or int(word) > most:
        return None
    return int(word)


def read_form(text, names):
    """The form over names that just this text tells, or None."""
    form = [0 for _ in range(len(names) + 1)]
    for term in text.replace(" - ", " + -").split(" + "):
        sign = -1 if term.startswith("-") else 1
        *sizes, last = term.removeprefix("-").split(" ")
        if last in names:
            at = names.index(last) + 1
            size = 1 if not sizes else read_number(sizes[0], MOST_NUMBER)
        else:
            at = 0
            size = read_number(last, MOST_NUMBER)
        if size is None:
            return None
        form[at] = sign * size
    return tuple(form) if form_text(tuple(form), names) == text else None


def read_test(text, names):
    """The form of one test, or None."""
    return read_form(text.removesuffix(" >= 0"), names) if text.endswith(" >= 0") else None


def _read_tests(text, names):
    tests = [read_test(part, names) for part in text.split(" and ")]
    return None if None in tests or len(tests) > MOST_TESTS else tuple(tests)


def read_head(text):
    """The head (name, parameters, locals) that just this line tells, or None."""
    words = text.split(" ")
    if len(words) < 2 or words[0] != "proc":
        return None
    at = words.index("with") if "with" in words else len(words)
    head = (words[1], tuple(words[2:at]), tuple(words[at + 1:]))
    return head if is_head((*head, ())) and head_text(head) == text else None


def read_statement(text, names):
    """The statement, without its bodies, that just this line begins, or None."""
    statement = _read_loosely(text, names)
    return statement if statement is not None and statement_text(statement, names) == text else None


def _read_loosely(text, names):
    word, _, rest = text.partition(" ")
    if word == "choose":
        return (word,)
    if word == "call":
        return _read_call(rest, names, None)
    if word in names:
        return _read_assigned(rest.removeprefix("= "), names, names.index(word))
    told = None
    if word == "pay":
        told = read_number(rest, MAX_COST)
    elif word == "give":
        told = read_form(rest, names)
    elif word in ("if", "while"):
        told = _read_tests(rest, names)
    return None if told is None else (word, told)


def _read_assigned(text, names, variable):
    word, _, rest = text.partition(" ")
    if word == "call":
        return _read_call(rest, names, variable)
    if word == "any":
        tests = _read_tests(rest.removeprefix("where "), names) if rest else ()
        return None if tests is None else (word, variable, tests)
    form = read_form(text, names)
    return None if form is None else ("set", variable, form)


def _read_call(text, names, variable):
    callee, _, rest = text.partition(" ")
    forms = [read_form(part, names) for part in rest.split(", ")] if rest else []
    if not is_word(callee) or None in forms or len(forms) > MAX_PARAMETERS:
        return None
    return ("call", callee, tuple(forms), variable)
