"""Inquiries for forms of functions, and for sums of rows that show what is asked of them.

The numbers of the forms are free unknowns, those of the sums signed ones. Cells
are dicts from unknowns, and ONE (of boards), to integers; a form of cells is a list that has
cells for each of its numbers.
"""
from fallorflow.base.plain import added_up
from fallorflow.lots.proofs import answered
from fallorflow.lots.tables import FREE, SIGNED, ZERO


class Inquiry:
    """Unknowns, and what is asked of them so far: a changing class."""

    def __init__(self, sizes):
        self.sizes = sizes
        self.kinds = []
        self.places = {}
        self.asked = []
        self.asked_kinds = []

    def further(self, many, kind):
        """So many further unknowns; the place of the first one."""
        self.kinds.extend([kind for _ in range(many)])
        return len(self.kinds) - many

    def name(self, function):
        """The place of the first number of a function's form."""
        if function not in self.places:
            self.places[function] = self.further(self.sizes[function] + 1, FREE)
        return self.places[function]

    def own_form(self, function, many):
        """The form of a function, in cells, over as many unknowns as it has parameters, or more."""
        first = self.name(function)
        return [{first + at: 1} if at <= self.sizes[function] else {} for at in range(many + 1)]

    def take_away(self, cells, function, arguments):
        """Take the form of a function, with arguments put in, away from a form of cells."""
        first = self.name(function)
        cells[0][first] = cells[0].get(first, 0) - 1
        for number, form in enumerate(arguments, start=first + 1):
            for told, size in zip(cells, form):
                if size != 0:
                    told[number] = told.get(number, 0) - size

    def ask(self, cells, kind):
        """Ask of unknowns that cells come to at least 0, or just to 0."""
        self.asked.append(cells)
        self.asked_kinds.append(kind)

    def ask_sum(self, cells, rows, kind):
        """Ask for a sum of rows for a form of cells; the place of its numbers.

        The kind tells of the number without unknowns: whether something may be
        left over of it.
        """
        first = self.further(len(rows), SIGNED)
        for at, told in enumerate(cells):
            for number, row in enumerate(rows, start=first):
                if row[at] != 0:
                    told[number] = -row[at]
            self.ask(told, kind if at == 0 else ZERO)
        return first

    def answer(self, costs):
        """The answer to all that is asked, costs being cells."""
        return answered(self.kinds, self.asked, self.asked_kinds, costs)

    def forms_at(self, values):
        """The form of each function, by the values of all unknowns, 0 for those that were not named."""
        found = []
        for function, many in enumerate(self.sizes):
            first = self.places.get(function)
            found.append((0,) * (many + 1) if first is None else tuple(values[first:first + many + 1]))
        return tuple(found)


def sum_with(form, rows, numbers):
    """The sum with the scale 1 for a form that has just these numbers of the rows."""
    return (1, form[0] - added_up(rows, numbers, len(form) - 1)[0], *numbers)


def flows_of(sizes, numbers):
    """The vectors with so many unknowns, by their names, that stand one behind the other in a list of numbers.

    Those of nothing but 0 are left out.
    """
    found = {}
    at = 0
    for name, many in sizes:
        vector = tuple(numbers[at:at + many + 1])
        if any(vector):
            found[name] = vector
        at = at + many + 1
    return found
