"""Ledgers: items with their rows, what each of them costs, and what it calls."""
from fallorflow.base.plain import added, at_vector, grown, put, scaled
from fallorflow.rules.system import told_ahead


class Item:
    """A rule together with its first calls, told by (rule, number).

    It has its function, how many unknowns it has, their rows, its price, and
    those of its calls that are followed, with arguments over its unknowns.
    """

    def __init__(self, system, keep, name, price, numbers):
        rule, number = name
        self.source = system.rules[rule][0]
        self.many, self.rows = told_ahead(system, keep, rule, max(0, number - 1))
        self.price = price
        self.followed = []
        for at in numbers:
            callee, forms = system.rules[rule][4][at]
            self.followed.append((callee, [grown(form, self.many) for form in forms]))

    def due(self, scale, forms):
        """What the item is due, by a scale and a form for each function."""
        total = grown(forms[self.source], self.many)
        for callee, inner in self.followed:
            total = added(total, scaled(-1, put(forms[callee], inner, self.many)))
        return (total[0] - scale * self.price, *total[1:])

    def brought(self, vector):
        """The pairs of a callee and of what the item brings to it by a vector."""
        return [(callee, (vector[0], *[at_vector(form, vector) for form in inner])) for callee, inner in self.followed]


class Ledger:
    """For each function how many parameters it has and its entry rows, and a line for each item, ascending."""

    def __init__(self, system, keep, lines):
        self.sizes = [many for _, many in system.functions]
        self.entries = keep[0]
        self.lines = lines

    def named(self):
        """The ascending list of the functions that items name, as their own or as callees."""
        found = {}
        for item in self.lines:
            found[item.source] = True
            for callee, _ in item.followed:
                found[callee] = True
        return sorted(found)

    def many_equations(self):
        """How many numbers the forms of all named functions have, and one form over the unknowns of each item."""
        forms = [self.sizes[function] + 1 for function in self.named()]
        return sum(forms) + sum([item.many + 1 for item in self.lines])


def item_names(system):
    """The ascending list of all items (rule, number)."""
    found = []
    for index, rule in enumerate(system.rules):
        many = len(rule[4])
        found.extend([(index, number) for number in range(1, many + 1)] if many else [(index, 0)])
    return found


def cost_item(system, keep, name):
    """The item of a name: its price is the cost of its rule, and all of its first calls are followed."""
    return Item(system, keep, name, system.rules[name[0]][3], list(range(name[1])))


def cost_ledger(system, keep):
    """The ledger of all items."""
    return Ledger(system, keep, [cost_item(system, keep, name) for name in item_names(system)])


def lot_ledger(system, keep, lot):
    """The ledger of the items of some call edges: the price of each is 1, and those edges alone are followed."""
    lines = []
    for rule, number in lot:
        numbers = [at for at in range(number + 1) if (rule, at) in lot]
        lines.append(Item(system, keep, (rule, number + 1), 1, numbers))
    return Ledger(system, keep, lines)
