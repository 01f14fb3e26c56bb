"""Papers led on to a system one rule of which has a further row behind its guard.

In each sum and bar for rows among which the guard stands a 0 is put in where the new row stands.
"""
from fallorflow.bills.ledger import item_names
from fallorflow.check.claims import with_members
from fallorflow.hold.duties import all_duties
from fallorflow.rules.system import all_edges


def claim_about(claim, system):
    """The claim with another system in the place of its own."""
    return with_members(claim[0], (system, *claim[2:]))


class Lead:
    """Where the new row of a rule of a system stands, by a keep."""

    def __init__(self, system, rule, keep):
        self.told = system
        self.rule = rule
        self.keep = keep
        function, _, guard, _, _, _ = system.rules[rule]
        self.at = len(keep[0][function]) + len(guard)

    def bar_led(self, rule, shown):
        """A bar, or None, for rows of a rule."""
        return shown if rule != self.rule or shown is None else (*shown[:self.at], 0, *shown[self.at:])

    def sum_led(self, rule, shown):
        """A sum for rows of a rule."""
        return shown if rule != self.rule else (*shown[:self.at + 2], 0, *shown[self.at + 2:])

    def duty_sums(self, sums):
        """The sums for all duties of the keep."""
        found = []
        for duty, shown in zip(all_duties(self.told, self.keep), sums):
            found.append(shown if duty[0] == "start" else self.sum_led(duty[1], shown))
        return tuple(found)

    def bars(self, edges, bars):
        """The bars for all call edges but some."""
        others = [edge for edge in all_edges(self.told) if edge not in edges]
        return tuple([self.bar_led(edge[0], shown) for edge, shown in zip(others, bars)])

    def rank(self, edges, edge, rank):
        """A rank for an edge within some edges."""
        forms, sums = rank
        rules = [other[0] for other in (*edges, edge)]
        return (forms, tuple([self.sum_led(rule, shown) for rule, shown in zip(rules, sums)]))

    def tree(self, branches):
        """A tree: its branches are told from above, and made from below."""
        told = [(branch, None) for branch in branches]
        at = 0
        while at < len(told):
            told.extend([(branch, at) for branch in told[at][0][2]])
            at = at + 1
        inner = [[] for _ in told]
        roots = []
        for at in reversed(range(len(told))):
            (edges, ranks, _), above = told[at]
            led = tuple([(edge, self.rank(edges, edge, rank)) for edge, rank in ranks])
            branch = (edges, led, tuple(reversed(inner[at])))
            if above is None:
                roots.append(branch)
            else:
                inner[above].append(branch)
        return tuple(reversed(roots))

    def bill(self, rules, bill):
        """A bill, or a shared rank, the items of which are of told rules."""
        word, scale, forms, entries, dues = bill
        return (word, scale, forms, entries, tuple([self.sum_led(rule, shown) for rule, shown in zip(rules, dues)]))

    def whole_bill(self, bill):
        """A bill for all items."""
        return self.bill([rule for rule, _ in item_names(self.told)], bill)

    def sizing(self, sizes):
        """A sizing."""
        found = []
        for edge, entries in zip(all_edges(self.told), sizes):
            found.append(tuple([self.entry(edge[0], entry) for entry in entries]))
        return tuple(found)

    def entry(self, rule, entry):
        """An entry of a sizing."""
        if entry[0] != "led":
            return entry
        word, form, one, other = entry
        return (word, form, self.sum_led(rule, one), self.sum_led(rule, other))


def _holds(claim, paper, rule):
    keep, sums = paper
    return (keep, Lead(claim[1], rule, keep).duty_sums(sums))


def _never_chosen(claim, paper, rule):
    keep, sums, edges, bars, bar = paper
    lead = Lead(claim[1], rule, keep)
    return (keep, lead.duty_sums(sums), edges, lead.bars(edges, bars), lead.bar_led(claim[2], bar))


def _falls(claim, paper, rule):
    _, system, keep, edges, edge = claim
    return Lead(system, rule, keep).rank(edges, edge, paper)


def _taken_out(claim, paper, rule):
    return Lead(claim[1], rule, claim[2]).tree(paper)


def _billed(claim, paper, rule):
    return Lead(claim[1], rule, claim[2]).whole_bill(paper)


def _shared(claim, paper, rule):
    _, system, keep, edges = claim
    return Lead(system, rule, keep).bill([edge[0] for edge in edges], paper)


def _ends(claim, paper, rule):
    keep, sums, edges, bars, tree = paper
    lead = Lead(claim[1], rule, keep)
    return (keep, lead.duty_sums(sums), edges, lead.bars(edges, bars), lead.tree(tree))


def _at_most(claim, paper, rule):
    word, keep, sums, *told = paper
    lead = Lead(claim[1], rule, keep)
    if word == "bill":
        return (word, keep, lead.duty_sums(sums), lead.whole_bill(told[0]))
    return (word, keep, lead.duty_sums(sums), lead.tree(told[0]), lead.sizing(told[1]))


def _within(claim, paper, rule):
    keep, sums, tree, sizes = paper
    lead = Lead(claim[1], rule, keep)
    return (keep, lead.duty_sums(sums), lead.tree(tree), lead.sizing(sizes))


# The kinds of claims that stay true when rules are tightened.
LED = {
    "at most": _at_most,
    "billed": _billed,
    "ends": _ends,
    "falls": _falls,
    "holds": _holds,
    "never chosen": _never_chosen,
    "shared": _shared,
    "taken out": _taken_out,
    "within": _within,
}


def paper_led(claim, paper, rule):
    """The paper of a claim of these kinds, led on to the system in which a rule is tightened."""
    lead = LED[claim[0]]
    return lead(claim, paper, rule)
