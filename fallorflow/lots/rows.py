"""Rows and equations: points and bars, what follows, least values, bare rows."""
from fallorflow.base.checks import are_indices, check_form, check_lot, check_many, is_long_row
from fallorflow.base.forms import MOST_ROWS, MOST_UNKNOWNS
from fallorflow.base.plain import added_up, at_vector
from fallorflow.errors import InvalidOperation
from fallorflow.lots.answers import bar_of, equations_table, followed, least_of, rows_table, solved_equations
from fallorflow.lots.answers import solved_rows
from fallorflow.lots.judges import do_hold, is_any_point, is_bar_for, is_point_for, is_sum_for
from fallorflow.lots.simplex import is_needed, lowered, opened

MOST_SIGNED = 40


def _check_rows(many, rows):
    check_many(MOST_UNKNOWNS, many)
    check_lot(many, MOST_ROWS, rows)


def _check_signs(signs):
    if not isinstance(signs, tuple) or len(signs) > MOST_SIGNED:
        raise InvalidOperation("not a tuple of at most 40 signs")
    if not all([isinstance(sign, bool) for sign in signs]):
        raise InvalidOperation("signs are booleans")


def _check_equations(signs, equations):
    _check_signs(signs)
    check_lot(len(signs), MOST_ROWS, equations)


def point_or_bar(many, rows):
    """A point at which the rows hold, or a bar for them."""
    _check_rows(many, rows)
    return solved_rows(many, rows)


def follows(many, rows, form):
    """A sum for the rows and the form, or a point at which it escapes."""
    _check_rows(many, rows)
    check_form(many, form)
    return followed(many, rows, form)


def least(many, rows, form):
    """The least value of the form where the rows hold, how it falls, or a bar."""
    _check_rows(many, rows)
    check_form(many, form)
    table = rows_table(many, rows)
    at = opened(table)
    if at is not None:
        return ("bar", bar_of(table, at))
    found = least_of(table, form)
    if found[0] == "falls":
        return found
    word, fraction, point, scale, numbers = found
    return (word, fraction, point, (scale, 0, *numbers))


def bare(many, rows):
    """Ascending indices of a bare choice of the rows."""
    _check_rows(many, rows)
    table = rows_table(many, rows)
    at = opened(table)
    if at is not None:
        return _touched(bar_of(table, at))
    kept = []
    for index in range(len(rows)):
        if is_needed(table, many + index):
            kept.append(index)
        else:
            table.drop(table.inner.index(many + index))
    return tuple(kept)


def _touched(bar):
    # What comes in a bar off a table is bare: without any one of these rows the
    # others have independent numbers, and so a point.
    return tuple([index for index, number in enumerate(bar) if number != 0])


def is_bare(many, rows, value):
    """Whether the value is a bare choice of the rows."""
    _check_rows(many, rows)
    if not are_indices(len(rows), value):
        return False
    table = rows_table(many, [rows[index] for index in value])
    at = opened(table)
    if at is not None:
        return len(_touched(bar_of(table, at))) == len(value)
    if not all([is_needed(table, many + place) for place in range(len(value))]):
        return False
    others = [rows[index] for index in range(len(rows)) if index not in value]
    return all([_is_following(table, row) for row in others])


def _is_following(table, row):
    goal = table.enter(table.told(row))
    column = lowered(table, goal, True)
    is_below = column is not None or table.rows[goal][0] < 0
    table.drop(goal)
    return not is_below


def is_point(many, rows, value):
    """Whether the value is a point at which the rows hold."""
    _check_rows(many, rows)
    return is_point_for(many, rows, value)


def is_bar(many, rows, value):
    """Whether the value is a bar for the rows."""
    _check_rows(many, rows)
    return is_bar_for(many, rows, value)


def is_sum(many, rows, form, value):
    """Whether the value is a sum for the rows and the form."""
    _check_rows(many, rows)
    check_form(many, form)
    return is_sum_for(many, rows, form, value)


def is_fall(many, rows, form, value):
    """Whether the value is a direction in which the form falls, and no row does."""
    _check_rows(many, rows)
    check_form(many, form)
    if not is_long_row(many + 1, value) or value[0] != 0 or at_vector(form, value) >= 0:
        return False
    return do_hold(rows, value)


def solved(signs, equations):
    """A solution of the equations, or a clash."""
    _check_equations(signs, equations)
    return solved_equations(signs, equations)


def best(signs, equations, form):
    """The least value of the form among the solutions, how it falls, or a clash."""
    _check_equations(signs, equations)
    check_form(len(signs), form)
    table = equations_table(signs, equations)
    at = opened(table)
    if at is not None:
        return ("clash", bar_of(table, at))
    found = least_of(table, form)
    if found[0] == "falls":
        return found
    word, fraction, point, scale, numbers = found
    return (word, fraction, point, (scale, *numbers))


def is_solution(signs, equations, value):
    """Whether the value is a solution of the equations."""
    _check_equations(signs, equations)
    if not is_any_point(len(signs), value):
        return False
    if any([sign and number < 0 for sign, number in zip(signs, value[1:])]):
        return False
    return all([at_vector(form, value) == 0 for form in equations])


def is_clash(signs, equations, value):
    """Whether the value is a clash of the equations."""
    _check_equations(signs, equations)
    if not is_long_row(len(equations), value):
        return False
    first, *others = added_up(equations, value, len(signs))
    if first > -1:
        return False
    return all([number <= 0 if sign else number == 0 for sign, number in zip(signs, others)])
