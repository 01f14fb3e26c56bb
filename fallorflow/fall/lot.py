"""Lots of call edges with what a keep tells of them."""
from fallorflow.base.plain import added, grown, put, scaled
from fallorflow.lots.answers import bar_of, least_of, point_of, rows_table, sum_by_bar, sum_or_point
from fallorflow.lots.simplex import opened
from fallorflow.rules.system import edge_goal, edge_source, told_ahead


class Edge:
    """A call edge: its functions, how many values there are ahead of the call, their rows, the arguments.

    A changing class: what is asked of the rows is looked for when it is asked first.
    """

    def __init__(self, system, keep, edge):
        self.source = edge_source(system, edge)
        self.goal = edge_goal(system, edge)
        self.many, self.rows = told_ahead(system, keep, edge[0], edge[1])
        self.arguments = [grown(form, self.many) for form in system.rules[edge[0]][4][edge[1]][1]]
        self.table = None
        self.found_point = None
        self.found_bar = None

    def loss(self, forms):
        """The form of the function less that of the callee with the arguments put in."""
        behind = put(forms[self.goal], self.arguments, self.many)
        return added(grown(forms[self.source], self.many), scaled(-1, behind))

    def own(self, forms):
        """The form of the function, over the values ahead of the call."""
        return grown(forms[self.source], self.many)

    def look(self):
        """Find a point of the rows, or a bar."""
        if self.table is None:
            self.table = rows_table(self.many, self.rows)
            at = opened(self.table)
            if at is None:
                self.found_point = point_of(self.table)
            else:
                self.found_bar = bar_of(self.table, at)

    def is_open(self):
        """Whether the rows hold at some point."""
        self.look()
        return self.found_bar is None

    def some_sum(self):
        """A sum for the rows of a closed edge, which is one for each form."""
        return sum_by_bar(self.rows, self.found_bar)

    def sum_for(self, form):
        """A sum for the rows of an open edge and a form that follows."""
        found = sum_or_point(self.table, form)[1]
        self.table.drop(len(self.table.rows) - 1)
        return found

    def least(self, form):
        """The least value (top, bottom) of a form at the points of an open edge, None if it falls."""
        found = least_of(self.table, form)
        self.table.drop(len(self.table.rows) - 1)
        return found[1] if found[0] == "least" else None


class Lot:
    """Some call edges of a system, told by (rule, number), and how many parameters each function has.

    It never changes, but for what its edges find.
    """

    def __init__(self, system, keep, edges):
        self.sizes = [many for _, many in system.functions]
        self.edges = edges
        self.told = {edge: Edge(system, keep, edge) for edge in edges}

    def many_rows(self):
        """How many rows the edges have together."""
        return sum([len(edge.rows) for edge in self.told.values()])

    def arrows(self, edges):
        """The pairs of functions that some edges of the lot lead from and to."""
        return [(self.told[edge].source, self.told[edge].goal) for edge in edges]
