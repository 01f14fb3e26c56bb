"""The machine that works programs, frame by frame."""
from fallorflow.base.checks import is_from, is_short, is_short_row
from fallorflow.base.plain import at_values, first_below
from fallorflow.errors import InvalidChoice, InvalidForm, InvalidNumber, InvalidText, Refused
from fallorflow.texts.places import places_of
from fallorflow.texts.programs import is_program

MOST_OUTSIDE = 1000
MOST_SPOKEN = 2000


class Work:
    """The frames of a program at work: a changing class.

    Frames are pairs of a place and of values, the eldest first; `taken` are the
    choices of the plain machine for the steps so far.
    """

    def __init__(self, program, inputs, outside):
        self.places, self.firsts = places_of(program)
        self.inner = [len(procedure[2]) for procedure in program[0]]
        self.outside = outside
        self.used = 0
        self.frames = []
        self.taken = []
        self.paid = 0
        self.found = None
        self.begin(0, inputs)

    def begin(self, procedure, values):
        """Put a frame of a procedure on the others, its locals being 0."""
        zeros = [0 for _ in range(self.inner[procedure])]
        self.frames.append((self.firsts[procedure], (*values, *zeros)))

    def step(self):
        """Do the first thing to be done; "asks" or "stuck" if it cannot be done, else None."""
        number, values = self.frames[-1]
        place = self.places[number]
        word = "end" if place.statement is None else place.statement[0]
        if word not in ("any", "choose"):
            self.taken.append((place.first_rule + _failed(place, word, values), ()))
            self.do(place, word, values)
            return None
        if self.used == len(self.outside):
            return "asks"
        return self.choose(place, word, values, self.outside[self.used])

    def choose(self, place, word, values, told):
        """Do a statement that takes a number of the outside."""
        if word == "choose":
            way = told % len(place.goals)
            self.taken.append((place.first_rule + way, ()))
            self.frames[-1] = (place.goals[way], values)
        else:
            values = _replaced(values, place.statement[1], told)
            if first_below(place.statement[2], values) is not None:
                return "stuck"
            self.taken.append((place.first_rule, (told,)))
            self.frames[-1] = (place.goals[0], values)
        self.used = self.used + 1
        return None

    def do(self, place, word, values):
        """Do a statement that asks for nothing, or the end of a procedure."""
        if word == "end":
            self.give(0)
        elif word == "give":
            self.give(at_values(place.statement[1], values))
        elif word == "call":
            self.begin(place.statement[1], [at_values(form, values) for form in place.statement[2]])
        else:
            if word == "set":
                values = _replaced(values, place.statement[1], at_values(place.statement[2], values))
            elif word == "pay":
                self.paid = self.paid + place.statement[1]
            way = 1 if _failed(place, word, values) else 0
            self.frames[-1] = (place.goals[way], values)

    def give(self, number):
        """End the last frame with a number, and let the one ahead of it go on."""
        self.frames.pop()
        if not self.frames:
            self.found = number
            return
        calling, values = self.frames[-1]
        place = self.places[calling]
        if place.statement[3] is not None:
            values = _replaced(values, place.statement[3], number)
        self.frames[-1] = (place.goals[0], values)


def _failed(place, word, values):
    # 0 if the tests of an `if` or `while` are held, else 1 more than the index
    # of the first one that is not: the number of the rule that is open.
    if word not in ("if", "while"):
        return 0
    at = first_below(place.statement[1], values)
    return 0 if at is None else at + 1


def _replaced(values, at, number):
    return (*values[:at], number, *values[at + 1:])


def check_start(program, inputs):
    """Refuse what is no program, or no inputs of it."""
    if not is_program(program):
        raise InvalidText("not a program")
    if not is_short_row(len(program[0][0][1]), inputs):
        raise InvalidForm("not an integer for each parameter of the first procedure")


def check_given(program, inputs):
    """Refuse inputs at which a given form is below 0."""
    at = first_below(program[1], inputs)
    if at is not None:
        raise Refused(("given", at))


def _is_outside(value):
    if not isinstance(value, tuple) or len(value) > MOST_OUTSIDE:
        return False
    return all([is_short(number) for number in value])


def worked_through(program, inputs, outside, most):
    """The word at the first step that cannot be done, and the work behind those ahead."""
    check_start(program, inputs)
    if not _is_outside(outside):
        raise InvalidChoice("not a tuple of at most 1,000 integers")
    if not is_from(0, MOST_SPOKEN, most):
        raise InvalidNumber(most)
    check_given(program, inputs)
    work = Work(program, inputs, outside)
    word = None
    while word is None:
        if not work.frames:
            word = "ended"
        elif len(work.taken) == most:
            word = "most"
        else:
            word = work.step()
    return (word, work)


def spoken(program, inputs, outside, most):
    """(word, result, cost, steps) at the first step that cannot be done."""
    word, work = worked_through(program, inputs, outside, most)
    return (word, work.found, work.paid, len(work.taken))
