"""Wrong values of every kind that the document names, and near misses of right ones."""
from fallorflow.house.bench import Bench
from fallorflow.lots.tables import Table
from fallorflow.rules.machine import Standing
from fallorflow.rules.system import System

SMALL = System((("f", 1),), ((0, 0, ((-1, 1),), 1, ((0, ((-1, 1),)),), (0, 0, 0)),))


def nested(depth, kind):
    """Tuples, lists or dicts, so many, each one within the other."""
    value = 1
    for _ in range(depth):
        if kind is dict:
            value = {0: value}
        else:
            value = kind((value,))
    return value


def strange():
    """Values that are hardly ever right."""
    return [
        None, True, False, "", "a", "ab cd\n\t~", "x" * 40000, (), [], {}, [0], {0: 1}, (None,), (True,), ("a",), ([],),
        10 ** 60, -10 ** 60, 10 ** 219, -10 ** 219, (10 ** 60,), (0, 10 ** 219), (0, [1]), ((0,), 1), (0, (1, {})),
        nested(100, tuple), nested(100, list), nested(100, dict), SMALL, Standing(SMALL, (3,)), (SMALL,), (0, SMALL),
        Table([0], [(0, 1)], [1]), Bench(SMALL), (Bench(SMALL), 0),
    ]


def odd_parts():
    """What is no integer of at most 60 digits."""
    return [None, True, False, "1", (1,), [1], {1: 1}, 10 ** 60, -10 ** 60, SMALL]


def near_misses(value):
    """Values like a tuple of integers, but no such tuple."""
    found = [list(value), dict(enumerate(value)), (*value, 0), (value,)]
    if value:
        found.append(value[:-1])
    for at in range(len(value)):
        found.extend([(*value[:at], part, *value[at + 1:]) for part in odd_parts()])
    return found


def near_lots(value):
    """Values like a tuple of tuples of integers, but no such tuple."""
    found = [list(value), dict(enumerate(value)), (*value, 0), (*value, None), (*value, [0])]
    for at in range(len(value)):
        found.extend([(*value[:at], row, *value[at + 1:]) for row in near_misses(value[at])])
    return found


class Refusing:
    """Asked for by tests: which error comes, and what it keeps."""

    def refuses(self, kind, call, *args, keeps=None):
        try:
            found = call(*args)
        except Exception as error:
            self.assertIs(error.__class__, kind, (call.__name__, args, repr(error)))
            if keeps is not None:
                (attribute, kept), = keeps.items()
                told = getattr(error, attribute)
                self.assertEqual(told, kept)
                self.assertIs(told.__class__, kept.__class__)
            return
        self.fail(f"{call.__name__}{args!r} returned {found!r}")

    def is_just(self, expected, found, told=None):
        """True is not 1 here."""
        self.assertIs(found, expected, told)
