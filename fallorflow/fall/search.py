"""Which edges fall within some edges of a lot, with forms or flows that show it.

Shapes are pairs of forms and of sums for the losses of open edges, by edges.
Flows are pairs of vectors, by edges, and of a drift. What is found for one edge
often shows the same of others, too, so these need not be asked for.
"""
from fallorflow.base.plain import added, grown, scaled
from fallorflow.fall.question import asked_alone, asked_together
from fallorflow.lots.judges import do_hold


class Search:
    """What is found of some edges of a lot: a changing class.

    Flows that were found within more edges stay, as far as they need none that is gone.
    """

    def __init__(self, lot, edges, flows):
        self.lot = lot
        self.edges = edges
        there = {edge: True for edge in edges}
        self.shapes = {}
        self.flows = {}
        for edge, (vectors, drift) in flows.items():
            if edge in there and all([other in there for other in vectors]):
                self.flows[edge] = (vectors, drift)

    def look(self):
        """Find for each edge what shows that it falls, or that it does not."""
        asked = [edge for edge in self.edges if not self.is_found(edge) and self.lot.told[edge].is_open()]
        if asked:
            forms, sums, vectors = asked_together(self.lot, self.edges, asked)
            self.share_steps(vectors)
            self.share_shape(forms, sums)
        for edge in self.edges:
            if not self.is_found(edge):
                self.ask(edge)

    def is_found(self, edge):
        """Whether an edge is known to fall, or not to."""
        return edge in self.shapes or edge in self.flows

    def ask(self, edge):
        """Find what shows that one edge falls, or that it does not."""
        if not self.lot.told[edge].is_open():
            self.shapes[edge] = self.still()
            return
        word, *found = asked_alone(self.lot, self.edges, edge)
        if word == "rank":
            forms, sums = found
            self.shapes[edge] = (forms, sums)
            self.share_shape(forms, sums)
        else:
            vectors, drift = found
            self.flows[edge] = (vectors, drift)
            if any(drift):
                self.share_drift(edge, vectors, drift)
            else:
                self.share_steps(vectors)

    def still(self):
        """The shape of forms that are 0."""
        forms = tuple([(0,) * (many + 1) for many in self.lot.sizes])
        return (forms, {edge: (1, *[0 for _ in range(len(self.lot.told[edge].rows) + 1)]) for edge in self.edges})

    def share_shape(self, forms, sums):
        """Look whether the forms, made greater, let other edges fall, too."""
        for edge in self.edges:
            if not self.is_found(edge) and self.lot.told[edge].is_open():
                found = self.made_greater(edge, forms)
                if found is not None:
                    self.shapes[edge] = _greater(forms, sums, found[0], found[1])

    def made_greater(self, edge, forms):
        """How many times forms are to be taken, and what is to be added, so that an edge falls, or None."""
        told = self.lot.told[edge]
        fall = told.least(told.loss(forms))
        if fall is None or fall[0] <= 0:
            return None
        low = told.least(told.own(forms))
        if low is None:
            return None
        number = -(-fall[1] // fall[0])
        return (number, max(0, -(number * low[0] // low[1])))

    def share_steps(self, vectors):
        """Vectors that add up without a drift tell that none of the edges with a step falls."""
        for edge, vector in vectors.items():
            if edge not in self.flows and vector[0] >= 1:
                self.flows[edge] = (vectors, (0,) * len(vector))

    def share_drift(self, edge, vectors, drift):
        """Look for which other edges from the same function the drift tells the same."""
        source = self.lot.told[edge].source
        known = drift[:self.lot.sizes[source] + 1]
        for other, vector in vectors.items():
            told = self.lot.told[other]
            same = grown(known, told.many)
            if other not in self.flows and vector[0] >= 1 and told.source == source and do_hold(told.rows, same):
                self.flows[other] = (vectors, same)

    def rank(self, edge):
        """The rank of an edge that falls."""
        forms, sums = self.shapes[edge]
        found = []
        for other in self.edges:
            told = self.lot.told[other]
            if not told.is_open():
                found.append(told.some_sum())
            elif other == edge:
                first, *others = told.loss(forms)
                found.append(told.sum_for((first - 1, *others)))
            else:
                found.append(sums[other])
        told = self.lot.told[edge]
        found.append(told.sum_for(told.own(forms)) if told.is_open() else told.some_sum())
        return (forms, tuple(found))

    def balance(self, edge, edges):
        """The balance of an edge that does not fall, within at least these edges."""
        vectors, drift = self.flows[edge]
        flows = [(vectors[other], self.lot.told[other].found_point) if other in vectors else None for other in edges]
        return (tuple(flows), drift)


def _greater(forms, sums, number, further):
    # The shape whose forms are taken so many times, something being added.
    longer = [added(scaled(number, form), (further, *[0 for _ in form[1:]])) for form in forms]
    return (tuple(longer), {edge: (1, *scaled(number, told[1:])) for edge, told in sums.items()})
