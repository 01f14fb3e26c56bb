"""All rings of a function that are put together of few links with plain picks."""
from fallorflow.rules.steps import numbers_within


class Links:
    """The links of a system whose picks are integers within a stretch, by their functions."""

    def __init__(self, system, stretch):
        self.links = {function: [] for function in range(len(system.functions))}
        for index, (function, unknowns, _, _, calls, _) in enumerate(system.rules):
            if calls:
                rest = (0,) * system.functions[function][1]
                for numbers in numbers_within(unknowns, stretch):
                    link = (index, tuple([(number, *rest) for number in numbers]))
                    self.links[function].append((link, calls[0][0]))

    def ways_back(self, function, most):
        """The list of the dicts, for no link, one, and so on, from functions to how many ways lead to a function."""
        found = [{function: 1}]
        for _ in range(most):
            ahead = found[-1]
            counts = {}
            for source, links in self.links.items():
                total = sum([ahead.get(goal, 0) for _, goal in links])
                if total:
                    counts[source] = total
            found.append(counts)
        return found

    def rings(self, function, most):
        """The list of all rings of a function with just so many links."""
        back = self.ways_back(function, most)
        found = [((), function)]
        for number in range(most):
            behind = back[most - number - 1]
            longer = []
            for ring, place in found:
                for link, goal in self.links[place]:
                    if goal in behind:
                        longer.append(((*ring, link), goal))
            found = longer
        return [ring for ring, _ in found]
