import random
import unittest

from fallorflow.errors import InvalidText, ParseError
from fallorflow.texts.lead import system_of
from fallorflow.texts.programs import is_program
from fallorflow.texts.speech import program_text, read_program
from tests import draws
from tests.reading import read
from tests.values import Refusing, strange

BITS = ["proc", "with", "given", "any", "where", "pay", "give", "if", "else", "while", "choose", "or", "call", "end", "and", "x", "n",
        "main", "p", ">= 0", "0", "1", "-", "+", "=", ",", "2 x", "-n", "x + n", "1001", "100001", "", " ", "  ", "\n", "zz", "anyx"]
WHOLE = """proc main n x with k ifs
  given n >= 0
  given 2 n - x - 100000 >= 0
  k = any
  k = any where k >= 0 and x - k >= 0
  ifs = n - 3 x + k + 1
  if n >= 0 and x - 1 >= 0
    pay 1000
  else
    choose
    or
      give 0
    or
      while -100000 n + ifs >= 0
        call p
        k = call sum n, x - 2 k
      end
    end
  end
  if k >= 0
  end
end
proc p
end
proc sum main n
  give main + n
end
"""


def proc(*lines, head="proc main n"):
    return "\n".join([head, *["  " + line for line in lines], "end", ""])


class WrittenTest(Refusing, unittest.TestCase):
    def setUp(self):
        self.draw = random.Random(31)

    def test_written_and_read(self):
        seen = {}
        for _ in range(600):
            program = draws.program(self.draw)
            text = program_text(program)
            self.assertEqual(read_program(text), program)
            self.assertEqual(read(text), program)
            self.assertEqual(seen.setdefault(text, program), program)
            self.assertEqual((program_text(program), read_program(text)), (text, program))

    def test_each_piece(self):
        program = read_program(WHOLE)
        self.assertEqual(program, read(WHOLE))
        self.assertEqual(program_text(program), WHOLE)
        self.assertEqual(program[1], ((0, 1, 0), (-100000, 2, -1)))
        self.assertEqual([procedure[:3] for procedure in program[0]], [
            ("main", ("n", "x"), ("k", "ifs")), ("p", (), ()), ("sum", ("main", "n"), ())])
        self.assertEqual(program[0][0][3][4], ("if", ((0, 0, 0, 1, 0),), (), ()))
        self.assertEqual(program[0][0][3][3][3][0][1][2][0][2], (("call", 1, (), None), ("call", 2, ((0, 1, 0, 0, 0), (0, 0, 1, -2, 0)), 2)))

    def test_errors(self):
        for value in strange():
            self.refuses(InvalidText, program_text, value)
            if not isinstance(value, str):
                self.refuses(InvalidText, read_program, value)
        for text in ["proc main\tn\nend\n", "\t", "proc main\nend\n\r", "caf\u00e9", "x" * 30001, "\n" * 30001, "\x7f"]:
            self.refuses(InvalidText, read_program, text)
        self.refuses(ParseError, read_program, "x" * 30000, keeps={"spot": 0})
        self.refuses(ParseError, read_program, "\n" * 30000, keeps={"spot": 0})

    def test_the_longest_text(self):
        form = "-100000 abcdefgh - 100000 bbcdefgh - 100000 cbcdefgh - 100000 dbcdefgh - 100000 ebcdefgh - 100000"
        names = "abcdefgh bbcdefgh cbcdefgh dbcdefgh ebcdefgh"
        line = f"abcdefgh = call aaaaaaaa {', '.join([form] * 5)}"
        text = proc(*[line] * 39, head=f"proc aaaaaaaa {names}")
        self.assertLess(len(text), 30000)
        self.assertEqual(program_text(read_program(text)), text)
        self.assertTrue(is_program(read_program(text)))


class LinesTest(Refusing, unittest.TestCase):
    def setUp(self):
        self.draw = random.Random(32)

    def spot(self, text, expected=None):
        """The line that is told, as the reading of the tests tells it, too; None if it is a program."""
        told = read(text)
        if isinstance(told, int):
            self.refuses(ParseError, read_program, text, keeps={"spot": told})
        else:
            with self.subTest(text=text):
                self.assertEqual(read_program(text), told)
            self.assertEqual(program_text(told), text)
            told = None
        if expected is not None:
            self.assertEqual(told, expected, text)
        return told

    def test_kinds_of_lines(self):
        for line in ["pay 1001", "pay -1", "pay 01", "pay", "pay ", "pay x", "pay n", "give", "give ", "give m", "give 1 n", "give 2n", "give n + 0",
                     "give 0 n", "give n + n", "give n - -1", "give +n", "give - n", "give n+1", "give n  + 1", "give 1 + n", "give -0", "give 00",
                     "give 100001", "give -100001", "give 100001 n", "give 0100", "give n 2", "give 2 3 n", "give 9999999999", "give " + "9" * 5000,
                     "n = ", "n =", "n", "m = n", "n= 1", "n =1", "n = n = 1", "n = any where", "n = any where ", "n = any n >= 0",
                     "n = any where n", "n = any where n > 0", "n = any where n >= 1", "n = any where n >= 0 and", "n = any  where n >= 0",
                     "n = any where " + " and ".join(["n >= 0"] * 5), "n = any where n >= 0 or n >= 0", "any = n", "n = all",
                     "if", "if ", "if n", "if n >= 0 ", "if n >= 00", "while", "while n > 0", "if " + " and ".join(["n >= 0"] * 5),
                     "choose ", "choose n", "or", "else", "call", "call ", "call end", "call main n,n", "call main n,", "call main ,n",
                     "call main  n", "call main n n", "call Main n", "call m1", "call abcdefghi", "m = call main n", "n = call", "n = call any",
                     "call p " + ", ".join(["n"] * 6), "end ", "END", "proc p", "given n >= 0 and n >= 0", "given n", "given", "given m >= 0",
                     "with n", "where n >= 0", "and", "", " ", "  pay 1", " pay 1", "pay 1 ", "#", "n = 1;"]:
            self.assertEqual(self.spot(proc("pay 1", line, "pay 2")), 2, line)
        for line in ["pay 0", "pay 1000", "give 100000", "give -100000", "give -100000 n - 100000", "n = any", "n = n", "n = 0",
                     "n = any where " + " and ".join(["n >= 0"] * 4), "call main n", "n = call main 0"]:
            self.spot(proc("pay 1", line, "pay 2"))
            self.assertIsNone(self.spot(proc("pay 1", line, "pay 2")), line)

    def test_heads(self):
        for head in ["proc", "proc ", "proc any", "proc main any", "proc main n n", "proc main with", "proc main n with n", "proc main with x with y",
                     "proc main  n", "proc main n ", "proc abcdefghi", "proc Main", "proc m1", "proc main a b c d e f", "proc main a b c with d e f",
                     "proc main with a b c d e", "Proc main", " proc main", "main", "end", "pay 1", "given n >= 0", "", "proc with x", "proc main, n"]:
            self.assertEqual(self.spot(proc(head=head)), 0, head)
        for head in ["proc main", "proc main main", "proc procs", "proc withs ends", "proc main with a b c d", "proc main a b c d e", "proc main anyx"]:
            self.assertIsNone(self.spot(proc(head=head)), head)
        # Five locals stand in another procedure than the first one.
        self.assertIsNone(self.spot(proc() + proc(head="proc p with a b c d e")))
        self.assertEqual(self.spot(proc() + proc(head="proc main")), 2)
        six = "".join(proc(head=f"proc {name}") for name in "abcdef")
        self.assertIsNone(self.spot(six))
        self.assertEqual(self.spot(six + proc(head="proc g")), 12)

    def test_given(self):
        self.assertIsNone(self.spot(proc(*["given n >= 0"] * 8)))
        self.assertEqual(self.spot(proc(*["given n >= 0"] * 9)), 9)
        self.assertIsNone(self.spot(proc(*["given n >= 0"] * 4, head="proc main n with x y")))
        self.assertEqual(self.spot(proc(*["given n >= 0"] * 5, head="proc main n with x y")), 5)
        self.assertEqual(self.spot(proc("given x >= 0", head="proc main n with x")), 1)
        self.assertEqual(self.spot(proc("pay 1", "given n >= 0")), 2)
        self.assertEqual(self.spot(proc() + proc("given n >= 0", head="proc p n")), 3)
        self.assertEqual(self.spot(proc("if n >= 0", "  given n >= 0", "end")), 2)

    def test_bodies(self):
        self.assertIsNone(self.spot(proc("if n >= 0", "else", "  pay 1", "end")))
        self.assertEqual(self.spot(proc("if n >= 0", "else", "end")), 3)
        self.assertEqual(self.spot(proc("if n >= 0", "else", "  pay 1", "else", "  pay 1", "end")), 4)
        self.assertEqual(self.spot(proc("if n >= 0", "or", "end")), 2)
        self.assertEqual(self.spot(proc("while n >= 0", "else", "end")), 2)
        self.assertEqual(self.spot(proc("choose", "end")), 2)
        self.assertIsNone(self.spot(proc("choose", "or", "end")))
        self.assertIsNone(self.spot(proc("choose", "or", "or", "or", "end")))
        self.assertEqual(self.spot(proc("choose", "or", "or", "or", "or", "end")), 5)
        self.assertEqual(self.spot(proc("choose", "else", "end")), 2)
        self.assertEqual(self.spot(proc("choose", "  or", "end")), 2)
        self.assertEqual(self.spot(proc("while n >= 0", "  pay 1", "  end")), 3)

    def test_depth(self):
        for many, expected in [(5, None), (6, 6)]:
            for word, behind in [("while n >= 0", []), ("if n >= 0", []), ("choose", ["or"])]:
                lines = ["  " * at + word for at in range(many)]
                for at in reversed(range(many)):
                    lines.extend(["  " * at + more for more in [*behind, "end"]])
                self.assertEqual(self.spot(proc(*lines)), expected)

    def test_too_many_places(self):
        # The procedure and 39 statements are 40 places; told at the very line, ahead of all others.
        self.assertIsNone(self.spot(proc(*["pay 1"] * 39)))
        self.assertEqual(self.spot(proc(*["pay 1"] * 40)), 40)
        self.assertEqual(self.spot(proc(*["pay 1"] * 40, "pay x")), 40)
        self.assertEqual(self.spot(proc(*["pay 1"] * 38, "pay x", "pay 1")), 39)
        self.assertEqual(self.spot(proc(*["pay 1"] * 39) + proc(head="proc p")), 41)
        self.assertEqual(self.spot(proc(*["pay 1"] * 39, "choose", "or", "end")), 40)

    def test_too_many_rules(self):
        tests = " and ".join(["n >= 0"] * 4)
        five = [f"if {tests}", "end"]
        # One rule for the procedure, five for each of these, 79 with the last of three.
        self.assertIsNone(self.spot(proc(*five * 15, "pay 1", "pay 1", "pay 1")))
        self.assertEqual(len(system_of(read_program(proc(*five * 15, *["pay 1"] * 4))).rules), 80)
        self.assertEqual(self.spot(proc(*five * 15, *["pay 1"] * 5)), 35)
        self.assertEqual(self.spot(proc(*five * 16)), 31)
        self.assertEqual(self.spot(proc(*five * 15, "choose", "or", "or", "or", "end")), None)
        self.assertEqual(self.spot(proc(*five * 15, "pay 1", "choose", "or", "or", "or", "end")), 35)
        self.assertEqual(self.spot(proc(*five * 15, *["pay 1"] * 4) + proc(head="proc p")), 36)

    def test_calls(self):
        behind = proc("give x", head="proc p x")
        self.assertIsNone(self.spot(proc("call p n") + behind))
        self.assertEqual(self.spot(proc("pay 1", "call q n") + behind), 2)
        self.assertEqual(self.spot(proc("call p n, n") + behind), 1)
        self.assertEqual(self.spot(proc("call p") + behind), 1)
        # Other faults are told ahead, whichever procedures there are.
        self.assertEqual(self.spot(proc("call q n") + behind + "x\n"), 6)
        self.assertEqual(self.spot(proc("call q n") + behind[:-4]), 5)
        self.assertEqual(self.spot(proc("call q", "call p " + ", ".join(["n"] * 6)) + behind), 2)
        self.assertEqual(self.spot(proc("call q", "call p n, n") + behind), 1)

    def test_what_lacks(self):
        lines = WHOLE.split("\n")[:-1]
        ends = [at for at, line in enumerate(lines) if line == "end"]
        for at in range(len(lines) + 1):
            text = "".join(line + "\n" for line in lines[:at])
            if at and at - 1 not in ends:
                self.assertEqual(self.spot(text), at)
            else:
                self.spot(text)
            if at < len(lines):
                for cut in range(1, len(lines[at]) + 1):
                    self.assertEqual(self.spot(text + lines[at][:cut]), at)
        self.assertEqual(self.spot(""), 0)
        self.assertEqual(self.spot("proc main"), 0)
        self.assertEqual(self.spot("\n"), 0)
        self.assertEqual(self.spot(WHOLE + "\n"), len(lines))

    def test_bent_texts(self):
        seen = {True: 0, False: 0}
        for _ in range(120):
            lines = program_text(draws.program(self.draw)).split("\n")[:-1]
            for at in range(len(lines)):
                for bent in self.bend(lines, at):
                    told = self.spot("".join(line + "\n" for line in bent))
                    seen[told is None] += 1
        self.assertGreater(min(seen.values()), 300)

    def bend(self, lines, at):
        line = lines[at]
        words = line.split(" ")
        place = self.draw.randrange(len(words))
        yield lines[:at] + lines[at + 1:]
        yield lines[:at] + [line, line] + lines[at + 1:]
        yield lines[:at] + ["  " + line] + lines[at + 1:]
        yield lines[:at] + [line.removeprefix("  ")] + lines[at + 1:]
        yield lines[:at] + [self.draw.choice(lines)] + lines[at + 1:]
        yield lines[:at] + [line, self.draw.choice(lines)] + lines[at + 1:]
        yield lines[:at] + [" ".join(words[:place] + [self.draw.choice(BITS)] + words[place + self.draw.randint(0, 1):])] + lines[at + 1:]
        cut = self.draw.randint(0, len(line))
        yield lines[:at] + [line[:cut] + self.draw.choice(BITS) + line[cut:]] + lines[at + 1:]


if __name__ == "__main__":
    unittest.main()
