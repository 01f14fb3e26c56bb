"""The machine of programs once more, as the document tells it: frames of what is still to be done."""


def value(form, values):
    return form[0] + sum(number * part for number, part in zip(form[1:], values))


def spoken(program, inputs, outside, most):
    """The word, and for each step of the machine the cost behind it; the result."""
    procedures = program[0]
    frames, costs, left, cost = [], [], list(outside), 0

    def begin(index, told):
        frames.append([procedures[index], list(procedures[index][3]), [*told, *[0] * len(procedures[index][2])], None])

    begin(0, inputs)
    result = None
    while True:
        if not frames:
            return "ended", result, cost, costs
        if len(costs) == most:
            return "most", None, cost, costs
        frame = frames[-1]
        todo, values = frame[1], frame[2]
        given = None
        if not todo:
            given = 0
        else:
            word, *told = todo[0]
            rest = todo[1:]
            if word == "set":
                values[told[0]] = value(told[1], values)
            elif word == "any":
                if not left:
                    return "asks", None, cost, costs
                tried = list(values)
                tried[told[0]] = left[0]
                if not all(value(test, tried) >= 0 for test in told[1]):
                    return "stuck", None, cost, costs
                left.pop(0)
                frame[2] = tried
            elif word == "pay":
                cost += told[0]
            elif word == "give":
                given = value(told[0], values)
            elif word in ("if", "while"):
                held = all(value(test, values) >= 0 for test in told[0])
                if word == "while":
                    rest = [*told[1], todo[0], *rest] if held else rest
                else:
                    rest = [*told[1 if held else 2], *rest]
            elif word == "choose":
                if not left:
                    return "asks", None, cost, costs
                rest = [*told[0][left.pop(0) % len(told[0])], *rest]
            else:
                frame[1], frame[3] = rest, told[2]
                begin(told[0], [value(form, values) for form in told[1]])
                costs.append(cost)
                continue
            frame[1] = rest
        costs.append(cost)
        if given is not None:
            frames.pop()
            result = given
            if frames and frames[-1][3] is not None:
                frames[-1][2][frames[-1][3]] = given
