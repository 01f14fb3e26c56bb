"""Texts of programs, written and read."""
from fallorflow.errors import InvalidText, ParseError
from fallorflow.rules.system import MAX_FUNCTIONS, MAX_GUARD, MAX_RULES
from fallorflow.texts.pieces import head_text, read_head, read_statement, read_test, statement_text, test_text
from fallorflow.texts.programs import MOST_BODIES, MOST_DEPTH, MOST_PROCEDURES, is_program, rules_of

MOST_SIGNS = 30000
STEP = "  "


def program_text(program):
    """The text of a program."""
    if not is_program(program):
        raise InvalidText("not a program")
    lines = []
    for number, (name, parameters, inner, body) in enumerate(program[0]):
        lines.append(head_text((name, parameters, inner)))
        if number == 0:
            lines.extend([f"{STEP}given {test_text(form, parameters)}" for form in program[1]])
        lines.extend(_body_lines(body, 1, (*parameters, *inner), program[0]))
        lines.append("end")
    return "".join([f"{line}\n" for line in lines])


def _body_lines(body, depth, names, procedures):
    lines = []
    for statement in body:
        word = statement[0]
        told = statement
        if word == "call":
            told = (word, procedures[statement[1]][0], *statement[2:])
        lines.append(STEP * depth + statement_text(told, names))
        if word in ("if", "while", "choose"):
            joint = STEP * depth + ("or" if word == "choose" else "else")
            for at, inner in enumerate(_told_bodies(statement)):
                lines.extend(([joint] if at > 0 else []) + _body_lines(inner, depth + 1, names, procedures))
            lines.append(STEP * depth + "end")
    return lines


def _told_bodies(statement):
    # The bodies that are written: a second one of `if` only if it has something.
    if statement[0] == "choose":
        return statement[1]
    return statement[2:3] if statement[0] == "if" and not statement[3] else statement[2:]


class Block:
    """What is begun and not ended: a head or the beginning of a statement, and its bodies so far."""

    def __init__(self, told):
        self.told = told
        self.bodies = [[]]


class Reader:
    """What the lines of a text have told so far: a changing class.

    Calls tell their procedures by names, till all of these are known.
    """

    def __init__(self):
        self.heads = []
        self.wholes = []
        self.given = []
        self.blocks = []
        self.place_count = 0
        self.rule_count = 0
        self.called = []

    def take(self, at, line):
        """Take a line, at its index; whether it is a piece that can stand there."""
        if not self.blocks:
            return self.begin(line)
        outer = STEP * (len(self.blocks) - 1)
        if line == outer + "end":
            return self.end()
        if line in (outer + "else", outer + "or"):
            return self.part(line[len(outer):])
        if not line.startswith(outer + STEP):
            return False
        text = line[len(outer + STEP):]
        return self.take_given(text) if text.startswith("given ") else self.state(at, text)

    def count(self, places, rules):
        """Count places and rules; whether they are not too many."""
        self.place_count = self.place_count + places
        self.rule_count = self.rule_count + rules
        return self.place_count <= MAX_FUNCTIONS and self.rule_count <= MAX_RULES

    def begin(self, line):
        """Begin a procedure."""
        head = read_head(line)
        if head is None or len(self.heads) == MOST_PROCEDURES or head[0] in [other[0] for other in self.heads]:
            return False
        if not self.heads and 2 * len(head[2]) > MAX_GUARD:
            return False
        self.heads.append(head)
        self.blocks.append(Block(head))
        return self.count(1, 1)

    def take_given(self, text):
        """Take a given form, which stands behind the first head alone."""
        _, parameters, inner = self.heads[0]
        form = read_test(text.removeprefix("given "), parameters)
        if form is None or len(self.heads) > 1 or len(self.blocks) > 1 or self.blocks[0].bodies[0]:
            return False
        self.given.append(form)
        return len(self.given) + 2 * len(inner) <= MAX_GUARD

    def state(self, at, text):
        """Take the first line of a statement."""
        _, parameters, inner = self.heads[-1]
        told = read_statement(text, (*parameters, *inner))
        if told is None:
            return False
        if told[0] in ("if", "while", "choose"):
            if len(self.blocks) == MOST_DEPTH:
                return False
            self.blocks.append(Block(told))
            return self.count(1, 1 if told[0] == "choose" else rules_of(told))
        if told[0] == "call":
            self.called.append((at, told[1], len(told[2])))
        self.blocks[-1].bodies[-1].append(told)
        return self.count(1, 1)

    def part(self, word):
        """Begin a further body of a block."""
        block = self.blocks[-1]
        many = len(block.bodies)
        if word == "else":
            is_fit = block.told[0] == "if" and many == 1
        else:
            is_fit = block.told[0] == "choose" and many < MOST_BODIES
        # A name of a procedure is none of these words, so a head is no such block.
        block.bodies.append([])
        return is_fit and self.count(0, 1 if word == "or" else 0)

    def end(self):
        """End the last block."""
        block = self.blocks[-1]
        word = block.told[0]
        bodies = tuple([tuple(body) for body in block.bodies])
        if (word == "if" and bodies[1:] == ((),)) or (word == "choose" and len(bodies) == 1):
            return False
        self.blocks.pop()
        if not self.blocks:
            self.wholes.append((*block.told, bodies[0]))
        elif word == "choose":
            self.blocks[-1].bodies[-1].append((word, bodies))
        elif word == "if":
            self.blocks[-1].bodies[-1].append((*block.told, bodies[0], bodies[1] if len(bodies) > 1 else ()))
        else:
            self.blocks[-1].bodies[-1].append((*block.told, bodies[0]))
        return True

    def wrong_call(self):
        """The index of the first line that calls no procedure, or one with another number of forms, or None."""
        sizes = {name: len(parameters) for name, parameters, _ in self.heads}
        for at, callee, many in self.called:
            if sizes.get(callee) != many:
                return at
        return None

    def program(self):
        """The program, all procedures being known."""
        numbers = {head[0]: number for number, head in enumerate(self.heads)}
        procedures = [(*whole[:3], _numbered(whole[3], numbers)) for whole in self.wholes]
        return (tuple(procedures), tuple(self.given))


def _numbered(body, numbers):
    # The body, calls telling their procedures by indices.
    found = []
    for statement in body:
        word = statement[0]
        if word == "call":
            statement = (word, numbers[statement[1]], *statement[2:])
        elif word == "choose":
            statement = (word, tuple([_numbered(inner, numbers) for inner in statement[1]]))
        elif word in ("if", "while"):
            statement = (*statement[:2], *[_numbered(inner, numbers) for inner in statement[2:]])
        found.append(statement)
    return tuple(found)


def _is_text(value):
    if not isinstance(value, str) or len(value) > MOST_SIGNS:
        return False
    return all([" " <= sign <= "~" or sign == "\n" for sign in value])


def read_program(text):
    """The program that a text tells."""
    if not _is_text(text):
        raise InvalidText("not a text of at most 30,000 printable signs and newlines")
    *lines, rest = text.split("\n")
    reader = Reader()
    for at, line in enumerate(lines):
        if not reader.take(at, line):
            raise ParseError(at)
    if rest or reader.blocks or not reader.wholes:
        raise ParseError(len(lines))
    at = reader.wrong_call()
    if at is not None:
        raise ParseError(at)
    return reader.program()
