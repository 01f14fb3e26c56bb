"""Texts of programs read once more: by patterns, down from procedures to lines."""
import re

WORDS = "proc with given any where pay give if else while choose or call end and".split()
NAME = r"(?!(?:%s)\b)[a-z]{1,8}" % "|".join(WORDS)
NUMBER = r"(?:[1-9][0-9]{0,4}|100000)"


class Wrong(Exception):
    """The index of the first line that cannot stand there."""


def sized(text):
    return int(text) if text else 1


def form(text, names):
    """The form that a text tells, None if it tells none."""
    if text == "0":
        return (0,) * (len(names) + 1)
    if re.search(r"\S[-+]", text):
        return None
    pattern, found = "^", [0] * (len(names) + 1)
    terms = [rf"(?P<s{at}>[-+])(?P<n{at}>{NUMBER} )?{name}" for at, name in enumerate(names)]
    for term in [*terms, rf"(?P<s>[-+])(?P<n>{NUMBER})"]:
        pattern += f"(?:{term})?"
    # Each sign stands for itself, the first one as if there were a plus ahead.
    text = re.sub(r" ([-+]) (?=\S)", r"\1", text if text.startswith("-") else "+" + text) if not text.startswith("+") else ""
    match = re.match(pattern + "$", text)
    if not text or match is None or re.search(r"(?<![0-9])1 ", text):
        return None
    for at in range(len(names)):
        if match[f"s{at}"]:
            found[at + 1] = int(match[f"s{at}"] + "1") * sized((match[f"n{at}"] or "").strip())
    if match["s"]:
        found[0] = int(match["s"] + match["n"])
    return tuple(found)


def lot(text, names):
    """The forms of tests, None if they are none."""
    found = []
    for part in text.split(" and "):
        match = re.match(r"^(.*) >= 0$", part)
        told = form(match[1], names) if match else None
        if told is None:
            return None
        found.append(told)
    return tuple(found) if len(found) <= 4 else None


class Reading:
    def __init__(self, lines):
        self.lines = lines
        self.at = 0
        self.places = self.rules = 0
        self.calls = []
        self.procedures = []
        self.given = []

    def line(self):
        if self.at == len(self.lines):
            raise Wrong(self.at)
        return self.lines[self.at]

    def next(self, places, rules):
        self.places += places
        self.rules += rules
        if self.places > 40 or self.rules > 80:
            raise Wrong(self.at)
        self.at += 1

    def program(self):
        while self.at < len(self.lines) or not self.procedures:
            self.procedure()
        return self.procedures, self.given, self.calls

    def procedure(self):
        match = re.match(rf"^proc ({NAME})((?: {NAME})*)(?: with((?: {NAME})+))?$", self.line())
        if not match or len(self.procedures) == 6 or match[1] in [head[0] for head in self.procedures]:
            raise Wrong(self.at)
        parameters, inner = match[2].split(), (match[3] or "").split()
        names = parameters + inner
        if len(names) > 5 or len(set(names)) < len(names) or (not self.procedures and len(inner) > 4):
            raise Wrong(self.at)
        self.next(1, 1)
        while not self.procedures and self.line().startswith("  given "):
            told = lot(self.line()[8:], parameters)
            if told is None or len(told) > 1 or len(self.given) + 1 + 2 * len(inner) > 8:
                raise Wrong(self.at)
            self.given.extend(told)
            self.next(0, 0)
        body = self.body(1, names)
        if self.line() != "end":
            raise Wrong(self.at)
        self.next(0, 0)
        self.procedures.append((match[1], tuple(parameters), tuple(inner), body))

    def body(self, depth, names):
        found = []
        while self.line().startswith("  " * depth):
            text = self.line()[2 * depth:]
            told = self.plain(text, names)
            if told is not None:
                self.next(1, 1)
                found.append(told)
            else:
                found.append(self.deep(text, depth, names))
        return tuple(found)

    def plain(self, text, names):
        if match := re.match(r"^pay (0|[1-9][0-9]{0,2}|1000)$", text):
            return ("pay", int(match[1]))
        if match := re.match(r"^give (.*)$", text):
            told = form(match[1], names)
            return None if told is None else ("give", told)
        if match := re.match(rf"^(?:({NAME}) = )?call ({NAME})(?: (.+))?$", text):
            told = [form(part, names) for part in match[3].split(", ")] if match[3] else []
            if None in told or len(told) > 5 or (match[1] and match[1] not in names):
                return None
            self.calls.append((self.at, match[2], len(told)))
            return ("call", match[2], tuple(told), names.index(match[1]) if match[1] else None)
        match = re.match(rf"^({NAME}) = (.*)$", text)
        if not match or match[1] not in names:
            return None
        if match[2] == "any":
            return ("any", names.index(match[1]), ())
        if match[2].startswith("any where "):
            told = lot(match[2][10:], names)
            return None if told is None else ("any", names.index(match[1]), told)
        told = form(match[2], names)
        return None if told is None else ("set", names.index(match[1]), told)

    def deep(self, text, depth, names):
        match = re.match(r"^(if|while) (.*)$", text)
        told = lot(match[2], names) if match else None
        if depth == 6 or (told is None and text != "choose"):
            raise Wrong(self.at)
        self.next(1, 1 if told is None else 1 + len(told))
        bodies, word = [self.body(depth + 1, names)], match[1] if match else "choose"
        joint = {"if": "else", "choose": "or"}.get(word)
        while self.line() == "  " * depth + f"{joint}" and len(bodies) < (2 if word == "if" else 4):
            self.next(0, 1 if word == "choose" else 0)
            bodies.append(self.body(depth + 1, names))
        if self.line() != "  " * depth + "end" or (word == "choose" and len(bodies) == 1):
            raise Wrong(self.at)
        if word == "if" and len(bodies) == 2 and not bodies[1]:
            raise Wrong(self.at)
        self.next(0, 0)
        if word == "choose":
            return (word, tuple(bodies))
        if word == "while":
            return (word, told, bodies[0])
        return (word, told, bodies[0], bodies[1] if len(bodies) == 2 else ())


def numbered(body, names):
    found = []
    for word, *told in body:
        if word == "call":
            told[0] = names.index(told[0])
        elif word == "choose":
            told[0] = tuple(numbered(inner, names) for inner in told[0])
        elif word in ("if", "while"):
            told[1:] = [numbered(inner, names) for inner in told[1:]]
        found.append((word, *told))
    return tuple(found)


def read(text):
    """The program that a text tells, or the number of a line, as the document tells them."""
    *lines, rest = text.split("\n")
    try:
        procedures, given, calls = Reading(lines).program()
    except Wrong as wrong:
        return wrong.args[0]
    if rest:
        return len(lines)
    sizes = {name: len(parameters) for name, parameters, _, _ in procedures}
    for at, callee, many in calls:
        if sizes.get(callee) != many:
            return at
    names = list(sizes)
    return (tuple((*head, numbered(body, names)) for *head, body in procedures), tuple(given))
