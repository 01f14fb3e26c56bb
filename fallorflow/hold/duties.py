"""Duties of keeps: what they are, their rows and forms, and where each row stands.

A lot of a keep is told as (side, function): side 0 for entries, 1 for results.
"""
from fallorflow.base.checks import is_from
from fallorflow.base.plain import put, units
from fallorflow.rules.system import all_edges, edge_goal, told_ahead


def sites(system):
    """What duties are told with, but for the index of a row, ascending."""
    found = [("call", *edge) for edge in all_edges(system)]
    found.extend([("end", rule) for rule in range(len(system.rules))])
    return [*found, ("start",)]


def lot_at(system, site):
    """The lot whose rows are to hold at a site."""
    if site[0] == "call":
        return (0, edge_goal(system, site[1:]))
    return (1, system.rules[site[1]][0]) if site[0] == "end" else (0, 0)


def rows_at(system, keep, site):
    """The pair of how many values are told at a site, and of the rows over them."""
    if site[0] == "start":
        return (system.functions[0][1], system.start_rows)
    rule = site[1]
    return told_ahead(system, keep, rule, site[2] if site[0] == "call" else len(system.rules[rule][4]))


def values_at(system, site, many):
    """The forms over many values that are put into a row that is to hold at a site."""
    if site[0] == "call":
        return system.rules[site[1]][4][site[2]][1]
    if site[0] == "start":
        return units(many, many)
    function, result = system.rules[site[1]][0], system.rules[site[1]][5]
    return (*units(system.functions[function][1], many), result)


def form_at(system, site, many, row):
    """The form over many values that a row becomes at a site."""
    return put(row, values_at(system, site, many), many)


def lots_ahead(system, site):
    """Which lots the rows at a site come from, in sequence, None for what is no part of a keep."""
    if site[0] == "start":
        return [None]
    function, calls = system.rules[site[1]][0], system.rules[site[1]][4]
    ahead = calls[:site[2]] if site[0] == "call" else calls
    return [(0, function), None, *[(1, callee) for callee, _ in ahead]]


def fixed_rows(system, site):
    """How many of the rows at a site are no part of a keep."""
    return len(system.start_rows if site[0] == "start" else system.rules[site[1]][2])


def lot_of(keep, lot):
    """The rows of a lot of a keep."""
    return keep[lot[0]][lot[1]]


def all_duties(system, keep):
    """The ascending list of the duties of a keep."""
    found = []
    for site in sites(system):
        found.extend([(*site, at) for at in range(len(lot_of(keep, lot_at(system, site))))])
    return found


def many_duties(system, keep):
    """How many duties a keep has."""
    return sum([len(lot_of(keep, lot_at(system, site))) for site in sites(system)])


def is_duty(system, keep, value):
    """Whether the value is a duty of the keep."""
    if not isinstance(value, tuple) or not value or not isinstance(value[0], str):
        return False
    sizes = {"call": 4, "end": 3, "start": 2}
    if sizes.get(value[0]) != len(value):
        return False
    if value[0] != "start" and not is_from(0, len(system.rules) - 1, value[1]):
        return False
    if value[0] == "call" and not is_from(0, len(system.rules[value[1]][4]) - 1, value[2]):
        return False
    return is_from(0, len(lot_of(keep, lot_at(system, value[:-1]))) - 1, value[-1])


def parts_of(system, keep, duty):
    """The triple (many, rows, form) of a duty."""
    site = duty[:-1]
    many, rows = rows_at(system, keep, site)
    row = lot_of(keep, lot_at(system, site))[duty[-1]]
    return (many, rows, form_at(system, site, many, row))
