"""Claims that are watched: where runs break them, and a line of text for each."""
from fallorflow.base.forms import form_text
from fallorflow.bounds.polys import poly_value
from fallorflow.check.claims import is_system_claim
from fallorflow.check.papers import breaking_step, sizes_of
from fallorflow.errors import InvalidClaim
from fallorflow.rules.machine import MOST_CHOICES, course_of, run

WATCHED = ("holds", "never chosen", "at most", "within")
NAMES = ("a", "b", "c", "d", "e")
RESULT = "r"


def is_watched(value):
    """Whether the value is a claim that is watched."""
    return is_system_claim(value) and value[0] in WATCHED


def _check_watched(claim):
    if not is_watched(claim):
        raise InvalidClaim("not a claim that is watched")


def broken_at(claim, inputs, choices):
    """How many choices of a run make a paper for the opposite claim, or None."""
    _check_watched(claim)
    run(claim[1], inputs, choices)
    return breaking_number(claim, inputs, choices)


def breaking_number(claim, inputs, choices):
    """The same, nothing being asked of what is passed."""
    word, system = claim[0], claim[1]
    if word == "at most" and inputs != claim[2]:
        return None
    if word == "never chosen":
        rules = [choice[0] for choice in choices]
        return rules.index(claim[2]) + 1 if claim[2] in rules else None
    course = course_of(system, inputs, choices, MOST_CHOICES)
    if word == "holds":
        return breaking_step(claim[1:], course)
    most = claim[3] if word == "at most" else poly_value(claim[2], sizes_of(inputs))
    for number, (cost, _, _) in enumerate(course):
        if cost > most:
            return number
    return None


def _longest():
    # The least number of more than a thousand digits.
    return (10 ** 50) ** 20


def _size_text(name, exponent):
    return name if exponent == 1 else f"{name}^{exponent}"


def _member_text(exponents, number):
    words = [_size_text(name, exponent) for name, exponent in zip(NAMES, exponents) if exponent]
    if number != 1 or not words:
        words = [str(number), *words]
    return " ".join(words)


def _poly_text(poly):
    members = [_member_text(exponents, poly[exponents]) for exponents in sorted(poly, reverse=True)]
    return " + ".join(members) if members else "0"


def watch_text(claim):
    """A line of text for a claim that is watched."""
    _check_watched(claim)
    word, system = claim[0], claim[1]
    if word == "never chosen":
        return f"never chosen: rule {claim[2]}"
    if word == "holds":
        side, function, row = claim[2:]
        name, many = system.functions[function]
        if side == 0:
            return f"holds {name}: {form_text(row, NAMES[:many])} >= 0"
        names = (*NAMES[:many], RESULT)
        return f"holds result of {name}: {form_text(row, names)} >= 0"
    numbers = [claim[3]] if word == "at most" else list(claim[2].values())
    if any([number >= _longest() for number in numbers]):
        raise InvalidClaim("a claim with an integer of more than 1,000 digits")
    if word == "within":
        return f"within {_poly_text(claim[2])}"
    told = ", ".join([str(number) for number in claim[2]])
    return f"at most {claim[3]} from ({told})"
