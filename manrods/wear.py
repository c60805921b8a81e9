"""FAULTS: which there can be, which of them are there, and what they change [20]."""

from manrods.basics import is_count, is_tuple
from manrods.shafts import is_platform


def is_leak(waters, thing):
    """Whether thing is a FAULT of a valve of waters."""
    return is_tuple(thing, 4) and thing[0] == "valve" and _is_change(waters, thing)


def _is_change(waters, thing):
    """Whether thing, of four, names a CISTERN of waters, an amount from 1 and a number of strokes."""
    _, number, amount, since = thing
    if not all([is_count(part) for part in (number, amount, since)]):
        return False
    return number < len(waters) and amount > 0


def is_fault(mine, thing):
    """Whether thing is a FAULT of mine."""
    if is_tuple(thing, 3):
        return thing[0] == "platform" and is_platform(thing[1], mine[0]) and is_count(thing[2])
    return is_tuple(thing, 4) and thing[0] in ("valve", "spring") and _is_change(mine[1], thing)


def live_faults(faults, mended, made):
    """The list of those of faults that are there at made."""
    return [fault for place, fault in enumerate(faults) if fault[-1] <= made and place not in mended]


def _changes_by(kind, waters, live):
    """The list of how much the live FAULTS of this kind change at each CISTERN."""
    sums = [0] * len(waters)
    for fault in live:
        if fault[0] == kind:
            sums[fault[1]] += fault[2]
    return sums


def leaks_by(waters, live):
    """The tuple of how much less each lift brings by the live FAULTS."""
    return tuple(_changes_by("valve", waters, live))


def sprung_waters(waters, live):
    """The WATERS with springs as they are by the live FAULTS."""
    pairs = list(zip(waters, _changes_by("spring", waters, live)))
    return tuple([(*cistern[:2], cistern[2] + more, *cistern[3:]) for cistern, more in pairs])


def broken_by(live):
    """The set of the PLATFORMS that are broken by the live FAULTS."""
    return tuple(sorted(set([fault[1] for fault in live if fault[0] == "platform"])))
