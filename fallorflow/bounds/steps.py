"""A number for all: how many rules each run chooses at most, reckoned from a tree alone."""
from fallorflow.bounds.sizes import told_sizes

# The greatest number that is told.
GREATEST = 10 ** 60


class Stair:
    """A branch of a tree, as its length is reckoned: its own further edges, its ranks, the stairs within it."""

    def __init__(self, lot, branch):
        edges, ranks, tree = branch
        taken = {edge: True for part in tree for edge in part[0]}
        self.left = len([edge for edge in edges if edge not in taken]) - len(ranks)
        self.inner = []
        # For each rank, and each function, the size of its form at a size m is the first number and m times the second.
        self.sizes = []
        functions = sorted({lot.told[edge].goal: True for edge in edges})
        for _, (forms, _) in ranks:
            told = [forms[function] for function in functions]
            self.sizes.append([(max(0, 1 + form[0]), sum([abs(number) for number in form[1:]])) for form in told])

    def falls(self, most):
        """The sum of the greatest sizes of all ranks, all values being of this size."""
        return sum([max([first + times * most for first, times in told]) for told in self.sizes])


def stairs_of(lot, tree):
    """The list of the stairs of a tree."""
    stairs = []
    ahead = [(tree, stairs)]
    while ahead:
        branches, found = ahead.pop()
        for branch in branches:
            stair = Stair(lot, branch)
            found.append(stair)
            ahead.append((branch[2], stair.inner))
    return stairs


class Count:
    """Rounds, and growings by which a number changes, counted: a changing class."""

    def __init__(self, told, limit):
        self.told = told
        self.left = limit
        self.is_above = False

    def tick(self):
        """One more round, or growing."""
        self.left = self.left - 1
        self.is_above = self.is_above or self.left < 0

    def look(self, number):
        """A number is told: whether all is well so far."""
        self.is_above = self.is_above or number > GREATEST
        return not self.is_above

    def grown(self, most, times):
        """A number behind so many growings."""
        while times > 0 and self.look(most):
            further = max([most, *[first + times_most * most for first, times_most in self.told]])
            if further == most:
                break
            most = further
            times = times - 1
            self.tick()
        return most

    def length(self, stairs, left, falls, most):
        """The length of stairs, with some further edges, behind so many falls, values being of a size."""
        total = 0
        for _ in range(falls + 1):
            self.tick()
            for _ in stairs:
                most = self.grown(most, left + 1)
                for stair in stairs:
                    if self.is_above:
                        return total
                    further = self.length(stair.inner, stair.left, stair.falls(most), most)
                    total = total + further
                    most = self.grown(most, further)
            total = total + left + 1
            most = self.grown(most, left + 1)
            if not self.look(max(total, most)):
                return total
        return total


def first_outside(lot, sizes):
    """The first pair (edge, argument) that a sizing tells as "outside", or None."""
    for pair, size in told_sizes(lot, sizes).items():
        if size is None:
            return pair
    return None


def steps_of(system, lot, tree, sizes, inputs, limit):
    """("steps", number), ("outside", edge, argument) or ("above",)."""
    pair = first_outside(lot, sizes)
    if pair is not None:
        return ("outside", *pair)
    told = {(size[0], sum(size[1:])): True for size in told_sizes(lot, sizes).values()}
    count = Count(sorted(told), limit)
    leaving = len(lot.edges) - sum([len(branch[0]) for branch in tree])
    most = max([0, *[abs(number) for number in inputs]])
    total = count.length(stairs_of(lot, tree), leaving, 0, most)
    if not count.look(total):
        return ("above",)
    if all([len(rule[4]) < 2 for rule in system.rules]):
        answer = total + 1
    else:
        # Two to the power of 200 is above the greatest number.
        answer = (1 << (min(total, 200) + 1)) - 1
    return ("steps", answer) if count.look(answer) else ("above",)
