"""Broken platforms: whom they bar, who climbs past them from level to level, which are to be mended [19]."""

from itertools import combinations

from manrods.basics import is_ascending, is_count, is_number, is_tuple, tupled
from manrods.bells import all_saved, leads, most_saved, next_in, spans_of
from manrods.errors import CanNot, Unfit
from manrods.rides import colour_of, end_of, level_at, platform_at
from manrods.shafts import is_platform, platforms, stride_of


def _shaft_so_deep(deep):
    """A SHAFT of this deep: all such have the same PLATFORMS."""
    return (deep, True, (0,) * (deep + 1))


def are_breaks(thing, deep):
    """Whether thing is BREAKS for deep."""
    if not isinstance(thing, tuple) or not all([is_tuple(part, 2) for part in thing]):
        return False
    shaft = _shaft_so_deep(deep)
    if not all([is_platform(platform, shaft) and is_count(since) for platform, since in thing]):
        return False
    return is_ascending([platform for platform, _ in thing])


def bars_of(breaks):
    """The BARS of breaks."""
    # Who makes the stroke just ahead of since is lost at its end, so he must not make it either.
    bars = [(stride_of(platform), colour_of(platform[1]), max(0, since - 1)) for platform, since in breaks]
    return tuple(sorted(bars))


def first_barred(shaft, breaks, ride, board):
    """The first (made, level, lost) at which a broken platform holds up or loses who boards at board; None without."""
    since_of = {platform: since for platform, since in tupled(breaks)}
    for made in range(board, end_of(ride, board)):
        since = since_of.get(platform_at(shaft, ride, board, made), None)
        if since is None or since > made + 1:
            continue
        if since <= made:
            return (made, level_at(ride, board, made), False)
        return (made + 1, level_at(ride, board, made + 1), True)
    return None


def _next_leading(lasts, bars, level, end, slot):
    """The least slot, not below slot, that leads from level to end; None without."""
    return next_in(spans_of(lasts, bars, level, end, slot), slot)


def up_at(lasts, bars, asides, man):
    """The least last slot of a CLIMB of man; None without."""
    level, ready = man
    slot = ready + level
    # To step aside wherever one may, and to board again with the least slot, is never later.
    for end in [0, *asides][::-1]:
        if end < level:
            slot = _next_leading(lasts, bars, level, end, slot)
            level = end
        if slot is None:
            return None
    return slot


def _are_pairs(thing):
    """Whether thing is a tuple, not (), of pairs of numbers."""
    if not isinstance(thing, tuple) or thing == ():
        return False
    return all([is_tuple(part, 2) and is_number(part[0]) and is_number(part[1]) for part in thing])


def _legs(climb):
    """The list of the triples (level, end, slot): with slot he goes from level to end."""
    ends = [level for level, _ in climb[1:]] + [0]
    return [(level, end, slot) for (level, slot), end in zip(climb, ends)]


def is_climb(lasts, bars, asides, man, thing):
    """Whether thing is a CLIMB of man."""
    if not _are_pairs(thing):
        return False
    level, ready = man
    if thing[0][0] != level or thing[0][1] < ready + level:
        return False
    if not all([own in asides for own, _ in thing[1:]]):
        return False
    if not all([one[0] > two[0] and one[1] <= two[1] for one, two in zip(thing, thing[1:])]):
        return False
    return all([leads(lasts, bars, own, end, slot) for own, end, slot in _legs(thing)])


def _gone_up(lasts, bars, level, end, waiting):
    """The list of the pairs (slot, man) of those who go from level to end.

    waiting is a list of such pairs, slot the least one with which he may board: each slot that leads on is
    taken as soon as anybody is there.
    """
    gone, slot = [], 0
    for least, man in sorted(waiting):
        slot = _next_leading(lasts, bars, level, end, max(slot, least))
        if slot is None:
            break
        gone.append((slot, man))
        slot += 1
    return gone


def climbs(lasts, bars, asides, muster):
    """CLIMBS in which as many men as can be have a CLIMB."""
    if not all([level in asides for level, _ in muster]):
        raise Unfit()
    ways, there = [()] * len(muster), []
    for end, level in reversed(list(zip([0, *asides], asides))):
        begun = [(ready + level, man) for man, (own, ready) in enumerate(muster) if own == level]
        there = _gone_up(lasts, bars, level, end, there + begun)
        for slot, man in there:
            ways[man] = (*ways[man], (level, slot))
    up = {man: True for _, man in there}
    return tuple([way if man in up else None for man, way in enumerate(ways)])


def most_up(lasts, bars, asides, muster):
    """How many men have a CLIMB in CLIMBS at most."""
    return len(muster) - climbs(lasts, bars, asides, muster).count(None)


def are_climbs(lasts, bars, asides, muster, thing):
    """Whether thing is CLIMBS of muster."""
    if not is_tuple(thing, len(muster)):
        return False
    told = [(man, climb) for man, climb in zip(muster, thing) if climb is not None]
    if not all([is_climb(lasts, bars, asides, man, climb) for man, climb in told]):
        return False
    strides = []
    for _, climb in told:
        strides.extend([(stride, slot) for level, end, slot in _legs(climb) for stride in range(end, level)])
    return len(set(strides)) == len(strides)


def worst_platforms(lasts, breaks, muster, since):
    """The pair (many, platforms): by which one PLATFORM more how many fewer are saved at the most."""
    told = tupled(breaks)
    broken = [platform for platform, _ in told]
    saved = most_saved(lasts, bars_of(told), muster)
    found = []
    for platform in platforms(_shaft_so_deep(len(lasts))):
        if platform not in broken:
            left = most_saved(lasts, bars_of((*told, (platform, since))), muster)
            found.append((saved - left, platform))
    many = max([fewer for fewer, _ in found], default=0)
    return (many, tuple([platform for fewer, platform in found if fewer == many]))


def _without(breaks, mends):
    """The BREAKS that are left."""
    return tuple([part for part in breaks if part not in mends])


def least_mends(lasts, breaks, muster):
    """The list, ascending, of the sets of as few of breaks as can be without which all are saved."""
    if not all_saved(lasts, (), muster):
        raise CanNot()
    told = list(tupled(breaks))
    found = []
    for many in range(len(told) + 1):
        if not found:
            sets = list(combinations(told, many))
            found = [mends for mends in sets if all_saved(lasts, bars_of(_without(told, mends)), muster)]
    return found
