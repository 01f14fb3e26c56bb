"""The checker: what is a claim, and whether a paper shows that it is true."""
from fallorflow.check.claims import is_any_claim, other_kind, with_members
from fallorflow.check.papers import JUDGES, is_paper_for
from fallorflow.errors import InvalidClaim


def kinds():
    """The ascending tuple of all kinds of claims."""
    return tuple(sorted(JUDGES))


def is_claim(value):
    """Whether the value is a claim."""
    return is_any_claim(value)


def check_claim(claim):
    """Refuse what is no claim."""
    if not is_any_claim(claim):
        raise InvalidClaim("not a claim")


def opposite(claim):
    """The claim of the opposite kind with equal members, None if there is none."""
    check_claim(claim)
    word = other_kind(claim[0])
    return None if word is None else with_members(word, claim[1:])


def takes(claim, value):
    """Whether the value is a paper for the claim."""
    check_claim(claim)
    return is_paper_for(claim, value)
