"""Accounts: bills for a ledger, the least ones too, and crops that no bill can pay."""
from fallorflow.base.plain import added, at_values, grown, reduced
from fallorflow.lots.answers import solved_rows, sum_by_bar
from fallorflow.lots.boards import ONE
from fallorflow.lots.inquiry import Inquiry, flows_of, sum_with
from fallorflow.lots.tables import SIGNED, ZERO


class Account:
    """What is asked of the forms of a ledger: a changing class.

    Entry rows and rows of items without a point are closed: their bars are sums
    for all forms, and nothing is asked of them.
    """

    def __init__(self, ledger):
        self.ledger = ledger
        self.entry_ends = [solved_rows(many, rows) for many, rows in zip(ledger.sizes, ledger.entries)]
        self.item_ends = [solved_rows(item.many, item.rows) for item in ledger.lines]
        self.inquiry = Inquiry(ledger.sizes)
        self.order = []
        self.sums = {}
        for at, item in enumerate(ledger.lines):
            if self.item_ends[at][0] == "point":
                self.ask_item(at, item)

    def ask_item(self, at, item):
        """What an open item is due has a sum."""
        cells = self.inquiry.own_form(item.source, item.many)
        for callee, arguments in item.followed:
            self.inquiry.take_away(cells, callee, arguments)
        cells[0][ONE] = -item.price
        self.sums[("item", at)] = self.inquiry.ask_sum(cells, item.rows, SIGNED)
        self.order.append((("item", at), item.many))

    def ask_entry(self, function, rows, kind):
        """The form of a function has a sum of rows; the place of its numbers."""
        many = self.ledger.sizes[function]
        self.order.append((("entry", function), many))
        return self.inquiry.ask_sum(self.inquiry.own_form(function, many), rows, kind)

    def ask_entries(self):
        """Each function that is named, with entry rows that have a point, has an entry sum."""
        for function in self.ledger.named():
            if ("entry", function) not in self.sums and self.entry_ends[function][0] == "point":
                self.sums[("entry", function)] = self.ask_entry(function, self.ledger.entries[function], SIGNED)

    def answer(self, word, other):
        """A bill with the one word, or a crop with the other one."""
        self.ask_entries()
        answer = self.inquiry.answer({})
        if answer.found_clash is None:
            return self.bill(word, answer.found_point)
        return (other, *self.flows_told(answer.found_clash, None, ()))

    def least(self, function, values):
        """("least", fraction, bill, mixture) for a function at values at which its entry rows hold, or a crop."""
        rows = self.ledger.entries[function]
        # What is left over in the entry sum is a number of a row that is 1, so that it can be told with the others:
        # together they are the form at the values, each so many times, and no row is below 0 there.
        first = self.ask_entry(function, (grown((1,), len(values)), *rows), ZERO)
        self.sums[("entry", function)] = first + 1
        self.ask_entries()
        sizes = [1, *[at_values(row, values) for row in rows]]
        answer = self.inquiry.answer({first + at: size for at, size in enumerate(sizes)})
        if answer.found_clash is not None:
            return ("crop", *self.flows_told(answer.found_clash, None, ()))
        bill = self.bill("bill", answer.found_point)
        fraction = reduced((at_values(bill[2][function], values), bill[1]))
        weight, numbers = answer.found_least
        mixture = (weight, *self.flows_told(numbers, function, (weight, *[weight * number for number in values])))
        return ("least", fraction, bill, mixture)

    def bill(self, word, point):
        """The bill that a point of all unknowns tells."""
        scale, *values = point
        forms = self.inquiry.forms_at(values)
        entries = []
        for function, form in enumerate(forms):
            rows = self.ledger.entries[function]
            entries.append(self.sum_of(("entry", function), self.entry_ends[function], rows, form, values))
        dues = []
        for at, item in enumerate(self.ledger.lines):
            dues.append(self.sum_of(("item", at), self.item_ends[at], item.rows, item.due(scale, forms), values))
        return (word, scale, forms, tuple(entries), tuple(dues))

    def sum_of(self, name, end, rows, form, values):
        """The sum of rows for a form that was asked for by a name; of functions that are not named the form is 0."""
        if end[0] == "bar":
            return sum_by_bar(rows, end[1])
        first = self.sums.get(name)
        numbers = [0 for _ in rows] if first is None else values[first:first + len(rows)]
        return sum_with(form, rows, numbers)

    def flows_told(self, numbers, function, given):
        """The flows of items and of functions that numbers of what was asked tell, one function being given more."""
        vectors = flows_of(self.order, numbers)
        if given:
            name = ("entry", function)
            vectors[name] = added(vectors.get(name, (0,) * len(given)), given)
        items = [_flow(vectors.get(("item", at)), end) for at, end in enumerate(self.item_ends)]
        functions = [_flow(vectors.get(("entry", at)), end) for at, end in enumerate(self.entry_ends)]
        return (tuple(items), tuple(functions))


def _flow(vector, end):
    return None if vector is None else (vector, end[1])
