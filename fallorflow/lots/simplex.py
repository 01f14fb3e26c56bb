"""Ways through tables: to a point or what bars it, and down to least values.

The first rule for the next exchange is quick, but could go round where nothing
is won. Behind some idle exchanges the one that never does, that of the least
variables, takes over till something is won.
"""
from fallorflow.lots.tables import FREE, SIGNED, ZERO

PATIENCE = 30


def opened(table):
    """Lead the table to a point; None, or the index of a row that bars all points."""
    _take_free_in(table)
    at = _take_zeros_out(table)
    return _lifted(table) if at is None else at


def _take_free_in(table):
    for column in table.columns():
        if table.outer_kind(column) == FREE:
            at = _row_to_leave(table, column)
            if at is not None:
                table.exchange(at, column)


def _row_to_leave(table, column):
    # Forms that are 0 go ahead: whoever is outside for good asks nothing any more.
    best = None
    for at, row in enumerate(table.rows):
        kind = table.inner_kind(at)
        if kind != FREE and row[column] != 0:
            key = (0 if kind == ZERO else 1, abs(row[column]), at)
            if best is None or key < best:
                best = key
    return None if best is None else best[2]


def _take_zeros_out(table):
    for at in range(len(table.rows)):
        if table.inner_kind(at) == ZERO:
            column = _column_to_enter(table, at)
            if column is not None:
                table.exchange(at, column)
            elif table.rows[at][0] != 0:
                return at
    return None


def _column_to_enter(table, at):
    best = None
    for column in table.columns():
        number = table.rows[at][column]
        if number != 0 and table.outer_kind(column) == SIGNED:
            if best is None or (abs(number), column) < best:
                best = (abs(number), column)
    return None if best is None else best[1]


def _lifted(table):
    # Any costs of the outer variables do; each exchange keeps them from 0 on and
    # makes the cost of the point greater, so the way ends.
    costs = [0] * (len(table.outer) + 1)
    for column in table.columns():
        if table.outer_kind(column) == SIGNED:
            costs[column] = table.bottom * column
    goal = table.enter(costs)
    idle = 0
    at = _lowest_row(table, idle)
    column = None if at is None else _cheapest_column(table, at, goal)
    while column is not None:
        idle = idle + 1 if table.rows[goal][column] == 0 else 0
        table.exchange(at, column)
        at = _lowest_row(table, idle)
        column = None if at is None else _cheapest_column(table, at, goal)
    table.drop(goal)
    return at


def _lowest_row(table, idle):
    best = None
    for at, row in enumerate(table.rows):
        if row[0] < 0 and table.inner_kind(at) == SIGNED:
            key = (row[0] if idle < PATIENCE else 0, table.inner[at], at)
            if best is None or key < best:
                best = key
    return None if best is None else best[2]


def _cheapest_column(table, at, goal):
    row, costs = table.rows[at], table.rows[goal]
    best = None
    for column in table.columns():
        if row[column] > 0 and table.outer_kind(column) == SIGNED:
            if best is None or _is_less(table.outer, costs, row, column, best):
                best = column
    return best


def _is_less(names, tops, bottoms, one, other):
    mine, yours = tops[one] * bottoms[other], tops[other] * bottoms[one]
    return mine < yours or (mine == yours and names[one - 1] < names[other - 1])


def lowered(table, goal, is_enough_below):
    """Lower a row of a table with a point as far as it goes.

    None, the row telling its least value, or the column along which it falls
    without end. Whoever asks only whether it can be below 0 stops there.
    """
    idle = 0
    while not (is_enough_below and table.rows[goal][0] < 0):
        fall = _best_fall(table, goal, idle)
        if fall is None:
            return None
        column, stop = fall
        if stop is None:
            return column
        idle = idle + 1 if table.rows[stop][0] == 0 else 0
        table.exchange(stop, column)
    return None


def _best_fall(table, goal, idle):
    # The pair of a column and of the row that stops it; by the greatest fall,
    # since the steepest one can take exponentially many exchanges.
    best = None
    for column in table.columns():
        if _is_falling(table, goal, column):
            stop = _first_stop(table, column, goal)
            if stop is None:
                return (column, None)
            if best is None or _falls_more(table, goal, (column, stop), best, idle):
                best = (column, stop)
    return best


def _is_falling(table, goal, column):
    number = table.rows[goal][column]
    kind = table.outer_kind(column)
    return (kind == SIGNED and number < 0) or (kind == FREE and number != 0)


def _falls_more(table, goal, one, other, idle):
    is_ahead = table.outer[one[0] - 1] < table.outer[other[0] - 1]
    if idle >= PATIENCE:
        return is_ahead
    row = table.rows[goal]
    mine = row[one[0]] * table.rows[one[1]][0] * table.rows[other[1]][other[0]]
    yours = row[other[0]] * table.rows[other[1]][0] * table.rows[one[1]][one[0]]
    if mine != yours:
        return mine > yours
    return row[one[0]] < row[other[0]] or (row[one[0]] == row[other[0]] and is_ahead)


def _first_stop(table, column, goal):
    """The row, other than the goal, that is 0 first when a column grows, or None.

    No signed row has a number of a free column, so these never stop.
    """
    best = None
    for at, row in enumerate(table.rows):
        if at != goal and row[column] < 0 and table.inner_kind(at) == SIGNED:
            if best is None or _stops_ahead(table, column, at, best):
                best = at
    return best


def _stops_ahead(table, column, one, other):
    mine = table.rows[one][0] * table.rows[other][column]
    yours = table.rows[other][0] * table.rows[one][column]
    # Both numbers of the column are below 0: the greater product stops first.
    return mine > yours or (mine == yours and table.inner[one] < table.inner[other])


def is_needed(table, variable):
    """Whether a signed form of a table with a point can be below 0, the others holding."""
    at = _row_of(table, variable)
    if at is None:
        return True
    idle = 0
    while True:
        fall = _best_fall(table, at, idle)
        if fall is None:
            return False
        column, stop = fall
        if stop is None or _goes_below(table, column, at, stop):
            return True
        idle = idle + 1 if table.rows[stop][0] == 0 else 0
        table.exchange(stop, column)


def _row_of(table, variable):
    # An outer form is 0 now: it comes inside by a row that is 0, too, and that
    # would be below 0 if the form were; without one it can be below 0 at once.
    if variable in table.inner:
        return table.inner.index(variable)
    column = table.outer.index(variable) + 1
    at = _idle_row(table, column)
    if at is not None:
        table.exchange(at, column)
    return at


def _idle_row(table, column):
    for at, row in enumerate(table.rows):
        if row[0] == 0 and row[column] > 0 and table.inner_kind(at) == SIGNED:
            return at
    return None


def _goes_below(table, column, at, stop):
    mine = table.rows[at][0] * -table.rows[stop][column]
    yours = table.rows[stop][0] * -table.rows[at][column]
    return mine < yours
