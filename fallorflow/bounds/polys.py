"""Polys: polynomials in sizes, with no number below 0, as dicts from exponents."""
from fallorflow.base.checks import check_many, is_from, is_short, is_whole
from fallorflow.base.forms import MOST_UNKNOWNS
from fallorflow.bounds.terms import join_of, product_of, sum_of
from fallorflow.errors import InvalidForm, InvalidOperation, TooMany

MAX_TERMS = 300
MAX_EXPONENT = 40


def is_poly(many, value):
    """Whether the value is a poly over so many sizes."""
    check_many(MOST_UNKNOWNS, many)
    return is_poly_over(many, value)


def is_poly_over(many, value):
    """The same, nothing being asked of the number of sizes."""
    if not isinstance(value, dict) or len(value) > MAX_TERMS:
        return False
    for exponents, number in value.items():
        if not isinstance(exponents, tuple) or len(exponents) != many or not is_whole(number) or number < 1:
            return False
        if not all([is_from(0, MAX_EXPONENT, exponent) for exponent in exponents]):
            return False
    return True


def _check_polys(many, polys):
    check_many(MOST_UNKNOWNS, many)
    for poly in polys:
        if not is_poly_over(many, poly):
            raise InvalidForm("not a poly over so many sizes")


def is_fit(poly):
    """Whether what came of polys has no more members, and no greater exponents, than a poly."""
    return len(poly) <= MAX_TERMS and not any([max(exponents) > MAX_EXPONENT for exponents in poly if exponents])


def ordered(poly):
    """The poly with ascending keys."""
    return {exponents: poly[exponents] for exponents in sorted(poly)}


def _fit_one(poly):
    if not is_fit(poly):
        raise TooMany(MAX_TERMS)
    return ordered(poly)


def poly_sum(many, one, other):
    """The sum of two polys."""
    _check_polys(many, (one, other))
    return _fit_one(sum_of([one, other]))


def poly_product(many, one, other):
    """The product of two polys."""
    _check_polys(many, (one, other))
    return _fit_one(product_of(one, other, MAX_TERMS))


def poly_join(many, one, other):
    """The poly that has for each exponents the greatest number of both."""
    _check_polys(many, (one, other))
    return _fit_one(join_of([one, other]))


def poly_at(many, poly, sizes):
    """The poly at some sizes."""
    _check_polys(many, (poly,))
    if not isinstance(sizes, tuple) or len(sizes) != many or not all([is_short(size) and size >= 0 for size in sizes]):
        raise InvalidOperation("not an integer from 0 on for each size")
    return poly_value(poly, sizes)


def poly_value(poly, sizes):
    """The poly at some sizes, nothing being asked of what is passed."""
    powers = [_powers(size) for size in sizes]
    total = 0
    for exponents, number in poly.items():
        for told, exponent in zip(powers, exponents):
            number = number * told[exponent]
        total = total + number
    return total


def _powers(size):
    found = [1]
    for _ in range(MAX_EXPONENT):
        found.append(found[-1] * size)
    return found


def does_cover(many, one, other):
    """Whether the first poly has for each member of the other one a number that is at least that one."""
    _check_polys(many, (one, other))
    return is_covering(one, other)


def is_covering(one, other):
    """The same, nothing being asked of what is passed."""
    return all([one.get(exponents, 0) >= number for exponents, number in other.items()])
