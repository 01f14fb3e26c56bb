"""What is asked of numbers, names, forms and rows everywhere."""
from fallorflow.errors import InvalidForm, InvalidNumber, InvalidRows

MOST_LETTERS = 8
# The least number of more than 60 digits.
TOO_LONG = 10 ** 60


def is_whole(value):
    """Whether the value is an integer of any length."""
    return isinstance(value, int) and value is not True and value is not False


def is_short(value):
    """Whether the value is an integer of at most 60 digits."""
    return is_whole(value) and -TOO_LONG < value < TOO_LONG


def is_from(low, high, value):
    """Whether the value is an integer from low to high."""
    return is_whole(value) and low <= value <= high


def is_long_row(many, value):
    """Whether the value is a tuple of so many integers of any length."""
    if not isinstance(value, tuple) or len(value) != many:
        return False
    # Everything asks this, of the greatest rows too: a call for each part takes far longer.
    for part in value:
        if not isinstance(part, int) or part is True or part is False:
            return False
    return True


def is_row_within(bound, many, value):
    """Whether the value is a tuple of so many integers from -bound to bound."""
    return is_long_row(many, value) and (many == 0 or (-bound <= min(value) and max(value) <= bound))


def is_short_row(many, value):
    """Whether the value is a tuple of so many integers of at most 60 digits."""
    return is_row_within(TOO_LONG - 1, many, value)


def are_rows_within(bound, many, most, value):
    """Whether the value is a tuple of at most so many rows as above."""
    if not isinstance(value, tuple) or len(value) > most:
        return False
    for row in value:
        if not is_row_within(bound, many, row):
            return False
    return True


def are_short_forms(sizes, value):
    """Whether the value has a form for each of some numbers of unknowns."""
    return are_long_forms(sizes, value) and all([is_short_row(len(form), form) for form in value])


def are_long_forms(sizes, value):
    """Whether the value has for each of some numbers of unknowns a form with integers of any length."""
    if not isinstance(value, tuple) or len(value) != len(sizes):
        return False
    return all([is_long_row(many + 1, form) for many, form in zip(sizes, value)])


def is_ascending(values):
    """Whether each of some comparable values is above the one ahead of it."""
    return all([values[at] < values[at + 1] for at in range(len(values) - 1)])


def are_indices(many, value):
    """Whether the value is an ascending tuple of indices of so many."""
    if not isinstance(value, tuple) or not all([is_from(0, many - 1, part) for part in value]):
        return False
    return is_ascending(value)


def is_name(value):
    """Whether the value is a string of 1 to 8 letters from a to z."""
    if not isinstance(value, str) or not 1 <= len(value) <= MOST_LETTERS:
        return False
    return all(["a" <= letter <= "z" for letter in value])


def check_many(most, many):
    """Refuse a number of unknowns that is none."""
    if not is_from(0, most, many):
        raise InvalidNumber(many)


def check_form(many, form):
    """Refuse what is no form over so many unknowns."""
    if not is_short_row(many + 1, form):
        raise InvalidForm("not a form over so many unknowns")


def is_lot(many, most, value):
    """Whether the value is a tuple of at most so many forms over many unknowns."""
    return are_rows_within(TOO_LONG - 1, many + 1, most, value)


def is_long_lot(many, most, value):
    """Whether the value is a tuple of at most so many forms over many unknowns, with integers of any length."""
    if not isinstance(value, tuple) or len(value) > most:
        return False
    return all([is_long_row(many + 1, row) for row in value])


def check_lot(many, most, rows):
    """Refuse what is no tuple of at most so many forms over many unknowns."""
    if not is_lot(many, most, rows):
        raise InvalidRows("not rows over so many unknowns")
