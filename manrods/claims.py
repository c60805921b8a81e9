"""CLAIMS: which there are, and which comes of which [25]."""

from manrods.basics import is_count, is_tuple
from manrods.bells import are_bars, is_lasts, is_muster
from manrods.mines import is_mine, is_run, is_staffed
from manrods.rides import is_book
from manrods.shafts import is_shaft
from manrods.waters import is_waters
from manrods.wear import is_leak


def _is_free(parts):
    """Whether parts make a CLAIM of this name with it, being as many as they must be; so the next ones."""
    shaft, book = parts
    return is_shaft(shaft) and is_book(book, shaft)


def _is_waits(parts):
    """Whether parts make a CLAIM of this name."""
    return _is_free(parts[:2]) and is_count(parts[2])


def _is_saved(parts):
    """Whether parts make a CLAIM of this name."""
    lasts, bars, muster = parts
    if not isinstance(lasts, tuple) or len(lasts) < 2:
        return False
    deep = len(lasts)
    return is_lasts(lasts, deep) and are_bars(bars, deep) and is_muster(muster, deep)


def _are_waters(thing):
    """Whether thing is WATERS for the level of their sump, from 2."""
    if not isinstance(thing, tuple) or thing == () or not is_tuple(thing[0], 5):
        return False
    deep = thing[0][0]
    return is_count(deep) and deep >= 2 and is_waters(deep, thing)


def _is_cut(parts):
    """Whether parts make a CLAIM of this name."""
    return _are_waters(parts[0]) and is_count(parts[1]) and parts[1] > 0


def _is_steam(parts):
    """Whether parts make a CLAIM of this name."""
    return is_mine(parts[0]) and is_count(parts[1])


def _is_again(parts):
    """Whether parts make a CLAIM of this name."""
    mine, book, faults = parts
    return is_staffed(mine, book, faults)


def _are_leaks(waters, thing):
    """Whether thing is a tuple of LEAKS."""
    return isinstance(thing, tuple) and all([leak is None or is_leak(waters, leak) for leak in thing])


def _is_fits(parts):
    """Whether parts make a CLAIM of this name."""
    waters, row, most, leaks = parts
    if not _are_waters(waters) or not _are_leaks(waters, leaks) or leaks == () or not is_count(most):
        return False
    return isinstance(row, tuple) and row != () and all([is_count(amount) for amount in row])


def _is_home(parts):
    """Whether parts make a CLAIM of this name."""
    return is_run(parts[0])


SIZES = {"free": 2, "waits": 3, "saved": 3, "cut": 2, "steam": 2, "again": 3, "fits": 4, "home": 1}
CHECKS = {
    "free": _is_free, "waits": _is_waits, "saved": _is_saved, "cut": _is_cut,
    "steam": _is_steam, "again": _is_again, "fits": _is_fits, "home": _is_home,
}


def has_claim_form(thing):
    """Whether thing is a CLAIM."""
    if not isinstance(thing, tuple) or thing == () or not isinstance(thing[0], str) or thing[0] not in SIZES:
        return False
    if len(thing) != SIZES[thing[0]] + 1:
        return False
    check = CHECKS[thing[0]]
    return check(thing[1:])


def _is_left(row, whole, suits):
    """Whether row is left of whole, some being left out, each being one that suits who stood in its place."""
    at = 0
    for part in row:
        while at < len(whole) and not suits(part, whole[at]):
            at += 1
        if at == len(whole):
            return False
        at += 1
    return True


def _is_same(part, other):
    """Whether both are the same RIDE."""
    return part == other


def _is_easier(man, other):
    """Whether man is at the level of other or less deep, ready when he is or earlier."""
    return man[0] <= other[0] and man[1] <= other[1]


def _comes_of_free(claim, other):
    """Whether a CLAIM "free" or "waits" comes of another one of these."""
    if claim[1] != other[1] or not _is_left(claim[2], other[2], _is_same):
        return False
    if other[0] == "free":
        return True
    return claim[0] == "waits" and claim[3] >= other[3]


def _fits_more(claim, other):
    """Whether a CLAIM "fits" comes of another one."""
    _, waters, row, most, leaks = claim
    if waters != other[1] or row != other[2][:len(row)] or most < other[3]:
        return False
    return all([leak in leaks for leak in other[4]])


def follows(claim, other):
    """Whether claim comes of this other one."""
    kind = claim[0]
    if claim == other:
        return True
    if kind in ("free", "waits"):
        return other[0] in ("free", "waits") and _comes_of_free(claim, other)
    if kind != other[0]:
        return False
    if kind in ("cut", "steam"):
        return claim[1] == other[1] and claim[2] <= other[2]
    if kind == "saved":
        return claim[1:3] == other[1:3] and _is_left(claim[3], other[3], _is_easier)
    return kind == "fits" and _fits_more(claim, other)
