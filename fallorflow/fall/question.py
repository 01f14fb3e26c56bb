"""Questions whether edges fall, as equations with an answer or a clash.

What bars an answer has for each edge a row of numbers, and they are a balance.
"""
from fallorflow.lots.boards import ONE
from fallorflow.lots.inquiry import Inquiry, flows_of, sum_with
from fallorflow.lots.tables import SIGNED


class Question:
    """What is asked of the losses of all open ones of some edges: a changing class."""

    def __init__(self, lot, edges):
        self.lot = lot
        self.edges = [edge for edge in edges if lot.told[edge].is_open()]
        self.inquiry = Inquiry(lot.sizes)
        self.sums = {}

    def ask_loss(self, edge, more):
        """The loss of an edge, with more told of its number without unknowns, has a sum."""
        told = self.lot.told[edge]
        cells = self.inquiry.own_form(told.source, told.many)
        self.inquiry.take_away(cells, told.goal, told.arguments)
        cells[0].update(more)
        self.sums[edge] = self.inquiry.ask_sum(cells, told.rows, SIGNED)

    def ask_bound(self, edge):
        """The form of the function of an edge has a sum."""
        told = self.lot.told[edge]
        self.inquiry.ask_sum(self.inquiry.own_form(told.source, told.many), told.rows, SIGNED)

    def shape(self, values):
        """The pair of the forms and of the sums for the losses, by their edges, that values of the unknowns tell."""
        forms = self.inquiry.forms_at(values)
        sums = {}
        for edge in self.edges:
            told = self.lot.told[edge]
            first = self.sums[edge]
            sums[edge] = sum_with(told.loss(forms), told.rows, values[first:first + len(told.rows)])
        return (forms, sums)

    def vectors(self, numbers):
        """The vectors, by their edges, that numbers of what was asked tell."""
        return flows_of([(edge, self.lot.told[edge].many) for edge in self.edges], numbers)


def asked_alone(lot, edges, edge):
    """("rank", forms, sums) or ("balance", vectors, drift) for an open edge, sums and vectors by their edges."""
    question = Question(lot, edges)
    for other in question.edges:
        question.ask_loss(other, {ONE: -1} if other == edge else {})
    question.ask_bound(edge)
    answer = question.inquiry.answer({})
    if answer.found_clash is None:
        return ("rank", *question.shape(answer.found_point[1:]))
    many = lot.told[edge].many + 1
    return ("balance", question.vectors(answer.found_clash), tuple(answer.found_clash[-many:]))


def asked_together(lot, edges, asked):
    """(forms, sums, vectors) for some open edges, sums and vectors by their edges.

    Along each of these edges EITHER the forms fall, by at least 1, OR it has a
    vector of steps, and all vectors add up without a drift.
    """
    question = Question(lot, edges)
    missing = {edge: question.inquiry.further(1, SIGNED) for edge in asked}
    for edge in question.edges:
        question.ask_loss(edge, {ONE: -1, missing[edge]: 1} if edge in missing else {})
    for place in missing.values():
        question.inquiry.ask({ONE: 1, place: -1}, SIGNED)
    # What the losses lack is as little as can be: all of 1, or nothing.
    answer = question.inquiry.answer({place: 1 for place in missing.values()})
    forms, sums = question.shape(answer.found_point[1:])
    return (forms, sums, question.vectors(answer.found_least[1]))
