"""Levels of what is taken out of a lot of call edges, component by component."""
from fallorflow.base.checks import is_ascending, is_long_row
from fallorflow.fall.judge import is_balance_for, is_rank_for
from fallorflow.fall.search import Search
from fallorflow.rules.ways import parted


class Level:
    """A component of what is left: how deep it lies, the index of the level above, what falls in it."""

    def __init__(self, lot, edges, depth, above, flows):
        self.edges = edges
        self.depth = depth
        self.above = above
        self.search = Search(lot, edges, flows)
        self.search.look()
        self.taken = [edge for edge in edges if edge in self.search.shapes]


class Descent:
    """All levels of a lot, those above ahead of those below, and the edges on no ring by their rounds."""

    def __init__(self, lot):
        self.lot = lot
        self.levels = []
        self.rounds = {}
        self.go_down(lot.edges, 1, None, {})
        at = 0
        while at < len(self.levels):
            level = self.levels[at]
            if level.taken:
                for edge in level.taken:
                    self.rounds[edge] = level.depth
                left = tuple([edge for edge in level.edges if edge not in self.rounds])
                self.go_down(left, level.depth + 1, at, level.search.flows)
            at = at + 1

    def go_down(self, edges, depth, above, flows):
        """Begin a level for each component of some edges."""
        components, through = parted(edges, self.lot.arrows(edges))
        for edge in through:
            self.rounds[edge] = depth
        self.levels.extend([Level(self.lot, component, depth, above, flows) for component in components])

    def staying(self):
        """The ascending tuple of the edges that nothing takes out."""
        return tuple([edge for edge in self.lot.edges if edge not in self.rounds])

    def tree(self):
        """A tree for the lot, all edges being taken out."""
        branches = []
        inner = [[] for _ in self.levels]
        for at in reversed(range(len(self.levels))):
            level = self.levels[at]
            ranks = tuple([(edge, level.search.rank(edge)) for edge in level.taken])
            branch = (level.edges, ranks, tuple(reversed(inner[at])))
            if level.above is None:
                branches.append(branch)
            else:
                inner[level.above].append(branch)
        return tuple(reversed(branches))

    def stay(self):
        """A stay of all edges that are left."""
        edges = self.staying()
        balances = {}
        for level in self.levels:
            if not level.taken:
                for edge in level.edges:
                    balances[edge] = level.search.balance(edge, edges)
        return (edges, tuple([balances[edge] for edge in edges]))


def is_tree_for(lot, value):
    """Whether the value is a tree for a lot."""
    ahead = [(lot.edges, value)]
    while ahead:
        edges, told = ahead.pop()
        components, _ = parted(edges, lot.arrows(edges))
        if not isinstance(told, tuple) or len(told) != len(components):
            return False
        for component, branch in zip(components, told):
            if not _is_branch(lot, component, branch):
                return False
            ahead.append((without_ranks(branch), branch[2]))
    return True


def without_ranks(branch):
    """The edges of a branch of a tree that have no rank in it."""
    taken = [edge for edge, _ in branch[1]]
    return tuple([edge for edge in branch[0] if edge not in taken])


def _are_pairs(value):
    # Whether the value is an ascending tuple of pairs of integers: True is not 1 here.
    return isinstance(value, tuple) and all([is_long_row(2, part) for part in value]) and is_ascending(value)


def _is_branch(lot, component, value):
    if not isinstance(value, tuple) or len(value) != 3:
        return False
    edges, ranks, _ = value
    if not _are_pairs(edges) or edges != component or not isinstance(ranks, tuple) or not ranks:
        return False
    if not all([isinstance(pair, tuple) and len(pair) == 2 for pair in ranks]):
        return False
    taken = tuple([pair[0] for pair in ranks])
    if not _are_pairs(taken) or not all([edge in component for edge in taken]):
        return False
    return all([is_rank_for(lot, component, edge, rank) for edge, rank in ranks])


def is_stay_for(lot, value):
    """Whether the value is a stay within a lot."""
    if not isinstance(value, tuple) or len(value) != 2:
        return False
    edges, balances = value
    if not _are_pairs(edges) or not edges or not all([edge in lot.told for edge in edges]):
        return False
    if not isinstance(balances, tuple) or len(balances) != len(edges):
        return False
    return all([is_balance_for(lot, edges, edge, balance) for edge, balance in zip(edges, balances)])
