"""One judge of all PAPERS for and against CLAIMS [25]."""

from manrods.basics import tupled
from manrods.claims import follows, has_claim_form
from manrods.errors import Unfit
from manrods.papers import case_of


def is_claim(thing):
    """Whether thing is a CLAIM."""
    return has_claim_form(thing)


def _checked(claim):
    """The CLAIM as a tuple throughout."""
    own = tupled(claim)
    if not is_claim(own):
        raise Unfit()
    return own


def _all_checked(claims):
    """The list of the CLAIMS, each a tuple throughout."""
    return [_checked(claim) for claim in claims]


def is_so(claim):
    """Whether claim is so."""
    return case_of(_checked(claim)).so()


def paper(claim):
    """A PAPER for claim if it is so, otherwise one against it."""
    case = case_of(_checked(claim))
    if case.so():
        return case.pro()
    return case.con()


def _verdict(claim, thing):
    """What thing is to this CLAIM: for, against or none."""
    case = case_of(claim)
    if case.so():
        if case.is_pro(thing):
            return "for"
    elif case.is_con(thing):
        return "against"
    return "none"


def is_paper_for(claim, thing):
    """Whether thing is a PAPER for claim."""
    return _verdict(_checked(claim), thing) == "for"


def is_paper_against(claim, thing):
    """Whether thing is a PAPER against claim."""
    return _verdict(_checked(claim), thing) == "against"


def verdicts(claims, things):
    """The list with, for each CLAIM, what the value at its place in things is to it."""
    own = _all_checked(claims)
    if len(own) != len(things):
        raise Unfit()
    return [_verdict(claim, thing) for claim, thing in zip(own, things)]


def comes_of(claim, claims):
    """Whether claim comes of some of claims."""
    own = _checked(claim)
    return any([follows(own, other) for other in _all_checked(claims)])


def first_false(claims):
    """The first place whose CLAIM is not so; None if all are."""
    for place, claim in enumerate(_all_checked(claims)):
        if not case_of(claim).so():
            return place
    return None
