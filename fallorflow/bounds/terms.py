"""Polys reckoned with, nothing being asked of them: dicts from exponents to integers from 1 on, of any size."""


def constant_of(number, many):
    """The poly over so many sizes that is a number from 0 on."""
    return {(0,) * many: number} if number else {}


def size_of(at, many):
    """The poly that is one of so many sizes."""
    return {tuple([1 if place == at else 0 for place in range(many)]): 1}


def sum_of(polys):
    """The sum of polys."""
    total = {}
    for poly in polys:
        for exponents, number in poly.items():
            total[exponents] = total.get(exponents, 0) + number
    return total


def join_of(polys):
    """The poly that has for each exponents the greatest number of polys."""
    total = {}
    for poly in polys:
        for exponents, number in poly.items():
            total[exponents] = max(total.get(exponents, 0), number)
    return total


def times_of(number, poly):
    """The poly a number of times, from 0 on."""
    return {exponents: number * size for exponents, size in poly.items()} if number else {}


def product_of(one, other, most):
    """The product of two polys; a part of it with more than so many members, if it has more."""
    total = {}
    for mine, number in one.items():
        for yours, size in other.items():
            exponents = tuple([first + second for first, second in zip(mine, yours)])
            total[exponents] = total.get(exponents, 0) + number * size
        if len(total) > most:
            break
    return total
