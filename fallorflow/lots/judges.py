"""Judges of points, bars, sums and vectors, the rows being of any number and size."""
from fallorflow.base.checks import is_long_row
from fallorflow.base.plain import added_up, at_vector, scaled


def do_hold(rows, vector):
    """Whether rows hold at a vector."""
    for row in rows:
        if at_vector(row, vector) < 0:
            return False
    return True


def is_any_point(many, value):
    """Whether the value is a point over so many unknowns."""
    return is_long_row(many + 1, value) and value[0] >= 1


def is_point_for(many, rows, value):
    """Whether the value is a point at which the rows hold."""
    return is_any_point(many, value) and do_hold(rows, value)


def is_vector_for(many, rows, value):
    """Whether the value is a point or a direction at which the rows hold."""
    return is_long_row(many + 1, value) and value[0] >= 0 and do_hold(rows, value)


def is_flow_for(many, rows, value):
    """Whether the value is None, or a pair of a vector and a point at both of which the rows hold."""
    if value is None:
        return True
    if not isinstance(value, tuple) or len(value) != 2:
        return False
    return is_vector_for(many, rows, value[0]) and is_point_for(many, rows, value[1])


def _are_from_zero(many, value):
    return is_long_row(many, value) and (many == 0 or min(value) >= 0)


def is_bar_for(many, rows, value):
    """Whether the value is a bar for the rows."""
    if not _are_from_zero(len(rows), value):
        return False
    first, *others = added_up(rows, value, many)
    return first <= -1 and not any(others)


def is_sum_for(many, rows, form, value):
    """Whether the value is a sum for the rows and the form."""
    if not _are_from_zero(len(rows) + 2, value):
        return False
    scale, further, *numbers = value
    if scale == 0 and further == 0:
        return False
    first, *others = added_up(rows, numbers, many)
    return (first + further, *others) == scaled(scale, form)
