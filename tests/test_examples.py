import os
import unittest

from fallorflow.base import forms
from fallorflow.bills import bills, least
from fallorflow.bounds import bounds, polys
from fallorflow.check import answers, checker
from fallorflow.ever import counters, rings
from fallorflow.exact import costs
from fallorflow.fall import ranks, trees
from fallorflow.hold import closed, keeps
from fallorflow.house import bench, edits, report
from fallorflow.lots import rows
from fallorflow.rules import machine, made, system
from fallorflow.texts import lead, programs, short, speech, spoken
from tests import examples

DOCUMENT = os.path.join(os.path.dirname(__file__), "..", "..", "shared", "DOC.md")
MODULES = [forms, rows, system, made, machine, programs, spoken, lead, short, speech, keeps, closed, ranks, trees, bills, least, polys, bounds, rings, counters, costs,
           checker, answers, edits, report, bench]
# Some names stand in several modules: those of the block's own stage count.
BLOCKS = [(examples.FORMS, forms), (examples.ROWS, rows), (examples.SYSTEMS, system), (examples.RUNS, machine), (examples.PROGRAMS, short), (examples.FALLS, ranks),
          (examples.TREES, trees), (examples.BILLS, bills), (examples.LEAST, least), (examples.POLYS, bounds), (examples.RINGS, rings), (examples.COUNTERS, counters),
          (examples.COSTS, costs), (examples.CLAIMS, checker), (examples.ANSWERS, answers)]


def told(code, names):
    """What the document would show of a line."""
    try:
        compiled = compile(code, "example", "eval")
    except SyntaxError:
        exec(code, names)
        return ""
    try:
        return repr(eval(compiled, names))
    except Exception as error:
        return f"raises {error!r}"


class ExamplesTest(unittest.TestCase):
    def test_all(self):
        names = {name: value for module in MODULES for name, value in vars(module).items() if not name.startswith("_")}
        many = 0
        for block, module in BLOCKS:
            names.update({name: value for name, value in vars(module).items() if not name.startswith("_")})
            lines = block.strip().split("\n")
            for at, line in enumerate(lines):
                if line.startswith(">>> "):
                    shown = lines[at + 1] if at + 1 < len(lines) and not lines[at + 1].startswith(">>> ") else ""
                    self.assertEqual(told(line[4:], names), shown, line)
                    many += 1
        self.assertEqual(many, 78)

    @unittest.skipUnless(os.path.exists(DOCUMENT), "the document is not here")
    def test_they_stand_in_the_document(self):
        with open(DOCUMENT, encoding="utf-8") as file:
            lines = file.read().split("\n")
        shown = [line for block, _ in BLOCKS for line in block.strip().split("\n")]
        inside, found = False, []
        for line in lines:
            if line == "```":
                inside = not inside
            elif inside:
                found.append(line)
        self.assertEqual(shown, found)
