"""A bench: a system that is edited, and notes of what is known of it."""
from fallorflow.base.checks import is_from, is_short
from fallorflow.check.claims import is_system_claim, with_members
from fallorflow.check.papers import is_paper_for
from fallorflow.errors import InvalidClaim, InvalidNumber, NothingToUndo, Refused, TooMany
from fallorflow.house.edits import loosened, tightened, with_rule
from fallorflow.house.leading import LED, claim_about, paper_led
from fallorflow.house.report import breaking_number, is_watched
from fallorflow.rules.machine import run
from fallorflow.rules.system import check_system

MOST_NOTES = 40
MOST_CALLS = 200


def _paper_alone(paper):
    # A paper that the checker takes, sharing no dict: only rounds have one.
    if isinstance(paper, tuple) and len(paper) == 3 and isinstance(paper[0], str) and paper[0] == "round":
        word, inputs, (way, further, endings) = paper
        return (word, inputs, (way, further, {call: endings[call] for call in sorted(endings)}))
    return paper


def _note_alone(note):
    claim, paper = note
    return (with_members(claim[0], claim[1:]), _paper_alone(paper))


def _call_alone(call):
    return (call[0], *_note_alone(call[1:])) if call[0] == "note" else call


class State:
    """What a bench has at one time: its system, its notes, and the numbers of those that stand. It never changes."""

    def __init__(self, system, notes, numbers):
        self.made = system
        self.pairs = notes
        self.stood = numbers

    def noted(self, claim, paper):
        """The state with a further note, which stands."""
        notes = (*self.pairs, _note_alone((claim, paper)))
        return State(self.made, notes, (*self.stood, len(notes)))

    def edited(self, system, rule):
        """The state with another system; the rule that was tightened, or None."""
        notes = []
        for number, (claim, paper) in enumerate(self.pairs, start=1):
            if rule is not None and number in self.stood and claim[0] in LED:
                paper = paper_led(claim, paper, rule)
            notes.append((claim_about(claim, system), paper))
        numbers = []
        for number, (claim, paper) in enumerate(notes, start=1):
            if is_system_claim(claim) and is_paper_for(claim, paper):
                numbers.append(number)
        return State(system, tuple(notes), tuple(numbers))


class Bench:
    """A system that is edited, with notes about it: a changing class."""

    def __init__(self, system):
        check_system(system)
        self._states = [State(system, (), ())]
        self._kept = []

    @property
    def system(self):
        """The system that is there."""
        return self._states[-1].made

    @property
    def notes(self):
        """The dict from numbers to pairs of a claim and a paper."""
        found = {}
        for number, note in enumerate(self._states[-1].pairs, start=1):
            found[number] = _note_alone(note)
        return found

    @property
    def standing(self):
        """The numbers of the notes that stand, ascending."""
        return self._states[-1].stood

    @property
    def calls(self):
        """The calls that changed the bench, in order."""
        return tuple([_call_alone(call) for call in self._kept])

    def note(self, claim, paper):
        """Note a claim and its paper; the number of the note."""
        state = self._states[-1]
        if not is_system_claim(claim) or claim[1] != state.made:
            raise InvalidClaim("not a claim about the system that is there")
        if not is_paper_for(claim, paper):
            raise Refused(("paper",))
        if len(state.pairs) == MOST_NOTES:
            raise TooMany(MOST_NOTES)
        self._check_calls()
        self._states.append(state.noted(claim, paper))
        self._kept.append(("note", *_note_alone((claim, paper))))
        return len(self._states[-1].pairs)

    def tighten(self, rule, row):
        """Put a further row behind the guard of a rule; the numbers of the notes that are lost."""
        return self._edit(tightened(self._states[-1].made, rule, row), rule, ("tighten", rule, row))

    def loosen(self, rule, at):
        """Take a row out of the guard of a rule; the numbers of the notes that are lost."""
        return self._edit(loosened(self._states[-1].made, rule, at), None, ("loosen", rule, at))

    def put(self, at, rule):
        """Put a rule in the place of another one, or behind all; the numbers of the notes that are lost."""
        system = self._states[-1].made
        if not is_from(0, len(system.rules), at):
            raise InvalidNumber(at)
        return self._edit(with_rule(system, at, rule), None, ("put", at, rule))

    def _check_calls(self):
        if len(self._kept) == MOST_CALLS:
            raise TooMany(MOST_CALLS)

    def _edit(self, system, rule, call):
        self._check_calls()
        state = self._states[-1]
        behind = state.edited(system, rule)
        self._states.append(behind)
        self._kept.append(call)
        return tuple([number for number in state.stood if number not in behind.stood])

    def watch(self, inputs, choices):
        """The dict from the numbers of notes that are watched to where a run breaks them."""
        state = self._states[-1]
        run(state.made, inputs, choices)
        found = {}
        for number, (claim, _) in enumerate(state.pairs, start=1):
            if is_watched(claim):
                at = breaking_number(claim, inputs, choices)
                if at is not None:
                    found[number] = at
        return found

    def undo(self, *, calls=1):
        """Be as ahead of so many last calls; how many are kept then."""
        if not is_short(calls) or calls < 1:
            raise InvalidNumber(calls)
        if calls > len(self._kept):
            raise NothingToUndo(calls)
        left = len(self._kept) - calls
        self._states = self._states[:left + 1]
        self._kept = self._kept[:left]
        return left

    def twin(self):
        """An equal bench that changes by itself."""
        other = Bench(self._states[0].made)
        other._states = list(self._states)
        other._kept = list(self._kept)
        return other

    def __len__(self):
        return len(self._states[-1].pairs)

    def __eq__(self, other):
        return (
            isinstance(other, Bench)
            and self._states[-1].made == other._states[-1].made
            and self._states[-1].pairs == other._states[-1].pairs
            and self._kept == other._kept
        )

    def __str__(self):
        return f"bench of {len(self.system.rules)} rules, {len(self.standing)} of {len(self)} notes stand"
