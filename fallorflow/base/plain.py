"""Forms and vectors reckoned with, nothing being asked of them."""
from math import gcd


def at_vector(form, vector):
    """The number of a form at a vector over as many unknowns."""
    return sum([one * other for one, other in zip(form, vector)])


def at_values(form, values):
    """The value of a form at integers."""
    total = form[0]
    for at, value in enumerate(values, start=1):
        total = total + form[at] * value
    return total


def first_below(rows, values):
    """The index of the first row that is below 0 at integers, or None."""
    for at, row in enumerate(rows):
        if at_values(row, values) < 0:
            return at
    return None


def added(one, other):
    """The sum of two equally long rows of numbers."""
    return tuple([mine + yours for mine, yours in zip(one, other)])


def add_to(total, side, numbers):
    """Add numbers, each so many times, to those of a list; further ones are left out."""
    for at in range(len(total)):
        total[at] = total[at] + side * numbers[at]


def scaled(number, form):
    """Each number of a form so many times."""
    return tuple([number * part for part in form])


def opposite_of(form):
    """The form -f - 1."""
    return (-form[0] - 1, *[-part for part in form[1:]])


def grown(form, many):
    """The form over many unknowns, further ones being told behind its own."""
    return (*form, *[0 for _ in range(many + 1 - len(form))])


def unit(at, many):
    """The form over many unknowns that is just the one at an index."""
    return tuple([1 if place == at + 1 else 0 for place in range(many + 1)])


def units(count, many):
    """The forms of the first unknowns."""
    return tuple([unit(at, many) for at in range(count)])


def put(form, forms, many):
    """The form with forms over many unknowns in the places of its own."""
    total = [form[0]] + [0] * many
    for number, inner in zip(form[1:], forms):
        if number != 0:
            total = [mine + number * yours for mine, yours in zip(total, inner)]
    return tuple(total)


def reduced(numbers):
    """The integers divided by their greatest common divisor; themselves if all are 0."""
    common = 0
    for number in numbers:
        common = gcd(common, number)
    if common == 0:
        return tuple(numbers)
    return tuple([number // common for number in numbers])


def added_up(rows, numbers, many):
    """The sum of forms over many unknowns, each so many times."""
    total = [0] * (many + 1)
    for row, number in zip(rows, numbers):
        if number != 0:
            total = [mine + number * yours for mine, yours in zip(total, row)]
    return tuple(total)
