"""What the results of stage 2 must be, added up here once more."""


def at(form, vector):
    return sum(number * part for number, part in zip(form, vector))


def total(forms, numbers, many):
    return [sum(number * form[place] for form, number in zip(forms, numbers)) for place in range(many + 1)]


def is_point(many, rows, value):
    return len(value) == many + 1 and value[0] >= 1 and all(at(row, value) >= 0 for row in rows)


def is_bar(many, rows, value):
    found = total(rows, value, many)
    return len(value) == len(rows) and min(value) >= 0 and found[0] <= -1 and not any(found[1:])


def is_sum(many, rows, form, value):
    if len(value) != len(rows) + 2 or min(value) < 0 or (value[0] == 0 and value[1] < 1):
        return False
    found = total(rows, value[2:], many)
    return [found[0] + value[1], *found[1:]] == [value[0] * number for number in form]


def is_fall(many, rows, form, value):
    if len(value) != many + 1 or value[0] != 0 or at(form, value) >= 0:
        return False
    return all(at(row, value) >= 0 for row in rows)


def is_solution(signs, equations, value):
    if len(value) != len(signs) + 1 or value[0] < 1 or any(at(form, value) for form in equations):
        return False
    return all(number >= 0 for sign, number in zip(signs, value[1:]) if sign)


def is_clash(signs, equations, value):
    found = total(equations, value, len(signs))
    if len(value) != len(equations) or found[0] > -1:
        return False
    return all(number <= 0 if sign else number == 0 for sign, number in zip(signs, found[1:]))


def is_least(many, rows, form, value):
    word, (top, bottom), point, told = value
    less = (bottom * form[0] - top, *[bottom * number for number in form[1:]])
    if bottom < 1 or not is_point(many, rows, point) or at(form, point) * bottom != top * point[0]:
        return False
    return word == "least" and told[0] >= 1 and is_sum(many, rows, less, told)


def is_best(signs, equations, form, value):
    word, (top, bottom), point, (scale, *numbers) = value
    if bottom < 1 or scale < 1 or not is_solution(signs, equations, point) or len(numbers) != len(equations):
        return False
    if word != "least" or at(form, point) * bottom != top * point[0]:
        return False
    left = [scale * bottom * number for number in form]
    left[0] -= scale * top
    left = [mine - yours for mine, yours in zip(left, total(equations, numbers, len(signs)))]
    return left[0] == 0 and all(number >= 0 if sign else number == 0 for sign, number in zip(signs, left[1:]))


def is_lowest(fraction):
    top, bottom = fraction
    while bottom:
        top, bottom = bottom, top % bottom
    return abs(top) == 1
