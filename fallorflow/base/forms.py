"""Forms over unknowns: their numbers, sums, and texts."""
from fallorflow.base.checks import check_form, check_many, is_from, is_long_row, is_lot, is_name, is_short
from fallorflow.base.checks import is_short_row
from fallorflow.base.plain import added, at_vector, opposite_of, put, reduced, scaled
from fallorflow.errors import InvalidForm, InvalidNumber, InvalidOperation

MOST_UNKNOWNS = 14
MOST_ROWS = 40


def is_form(many, value):
    """Whether the value is a form over so many unknowns."""
    check_many(MOST_UNKNOWNS, many)
    return is_short_row(many + 1, value)


def are_rows(many, value):
    """Whether the value is a tuple of at most 40 forms over so many unknowns."""
    check_many(MOST_UNKNOWNS, many)
    return is_lot(many, MOST_ROWS, value)


def _check_any_form(form):
    if not isinstance(form, tuple) or not 1 <= len(form) <= MOST_UNKNOWNS + 1:
        raise InvalidForm("not a form over at most 14 unknowns")
    check_form(len(form) - 1, form)


def _is_vector(many, value):
    return is_long_row(many + 1, value) and value[0] >= 0


def value_at(form, vector):
    """The number of the form at a vector."""
    _check_any_form(form)
    if not _is_vector(len(form) - 1, vector):
        raise InvalidOperation("not a vector over as many unknowns as the form")
    return at_vector(form, vector)


def lowest(vector):
    """The vector divided by the greatest common divisor of its integers."""
    if not isinstance(vector, tuple) or not 1 <= len(vector) <= MOST_UNKNOWNS + 1:
        raise InvalidOperation("not a vector over at most 14 unknowns")
    if not _is_vector(len(vector) - 1, vector):
        raise InvalidOperation("not a vector")
    return reduced(vector)


def plus(one, other):
    """The sum of two forms."""
    _check_any_form(one)
    _check_any_form(other)
    if len(one) != len(other):
        raise InvalidOperation("the forms are not equally long")
    return added(one, other)


def times(number, form):
    """The form, each integer so many times."""
    if not is_short(number):
        raise InvalidNumber(number)
    _check_any_form(form)
    return scaled(number, form)


def opposite(form):
    """The form -f - 1."""
    _check_any_form(form)
    return opposite_of(form)


def put_in(form, forms, many):
    """The form over many unknowns with a form in the place of each unknown."""
    _check_any_form(form)
    check_many(MOST_UNKNOWNS, many)
    if not is_lot(many, MOST_UNKNOWNS, forms) or len(forms) != len(form) - 1:
        raise InvalidOperation("not a form over so many unknowns for each unknown")
    return put(form, forms, many)


def moved(form, places, many):
    """The form over many unknowns, each unknown standing at its told place."""
    _check_any_form(form)
    check_many(MOST_UNKNOWNS, many)
    if not _are_places(len(form) - 1, many, places):
        raise InvalidOperation("not an own place for each unknown")
    total = [form[0]] + [0] * many
    for number, place in zip(form[1:], places):
        total[place + 1] = number
    return tuple(total)


def _are_places(count, many, value):
    if not isinstance(value, tuple) or len(value) != count:
        return False
    if not all([is_from(0, many - 1, place) for place in value]):
        return False
    return len({place: True for place in value}) == count


def form_text(form, names):
    """The text of a form, its unknowns having the told names."""
    _check_any_form(form)
    if not _are_names(len(form) - 1, names):
        raise InvalidOperation("not an own name for each unknown")
    text = ""
    for number, name in list(zip(form[1:], names)) + [(form[0], "")]:
        if number != 0:
            text = text + _joint(number, text) + _size_text(abs(number), name)
    return text if text else "0"


def _are_names(count, value):
    if not isinstance(value, tuple) or len(value) != count:
        return False
    if not all([is_name(name) for name in value]):
        return False
    return len({name: True for name in value}) == count


def _joint(number, ahead):
    if ahead:
        return " - " if number < 0 else " + "
    return "-" if number < 0 else ""


def _size_text(size, name):
    if not name:
        return str(size)
    return name if size == 1 else f"{size} {name}"
