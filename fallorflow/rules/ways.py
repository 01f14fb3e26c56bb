"""Ways along arrows between places: what is reached, and what is on rings."""


def _led_to(arrows):
    found = {}
    for source, goal in arrows:
        found.setdefault(source, []).append(goal)
    return found


def _spread(start, led_to):
    found = {start: True}
    ahead = [start]
    while ahead:
        for goal in led_to.get(ahead.pop(), []):
            if goal not in found:
                found[goal] = True
                ahead.append(goal)
    return found


def reached_from(start, arrows):
    """The start and all places that rows of arrows lead to from it, ascending."""
    return sorted(_spread(start, _led_to(arrows)))


def rings(arrows):
    """For each arrow the number of its component of rings, None if it is on no ring.

    Equal numbers are those of arrows that some ring has both.
    """
    led_to = _led_to(arrows)
    ways = {}
    for arrow in arrows:
        for place in arrow:
            if place not in ways:
                ways[place] = _spread(place, led_to)
    return [_component(source, ways) if source in ways[goal] else None for source, goal in arrows]


def _component(place, ways):
    return min([other for other in ways[place] if place in ways[other]])


def parted(names, arrows):
    """The pair (components, through) of named arrows: the tuples of those that some ring has together, by their
    first ones, and the tuple of those that are on no ring."""
    components = {}
    through = []
    for name, component in zip(names, rings(arrows)):
        if component is None:
            through.append(name)
        else:
            components.setdefault(component, []).append(name)
    return ([tuple(found) for found in components.values()], tuple(through))


def height(start, arrows, weights):
    """The greatest weight of a way along arrows from a start, no ring having a weight."""
    found = {}
    is_changed = True
    while is_changed:
        is_changed = False
        for (source, goal), weight in zip(arrows, weights):
            total = found.get(goal, 0) + weight
            if total > found.get(source, 0):
                found[source] = total
                is_changed = True
    return found.get(start, 0)
