"""Who meets, passes or clashes with whom, when and where [6]."""

from math import gcd

from manrods.errors import Unfit
from manrods.rides import end_of, is_riser, mark_of, share_stride


def _is_on_the_way(ride, twice):
    """Whether half of twice is behind boarding and ahead of getting off."""
    return 2 * ride[2] < twice < 2 * end_of(ride, ride[2])


def _overlap(ride, other):
    """Twice the made, and twice the level, at which a riser and a sinker are at one height.

    Halves of strokes and of levels are told so by whole numbers. None if they do not overlap.
    """
    if is_riser(ride) == is_riser(other):
        return None
    slot, number = mark_of(ride, ride[2]), mark_of(other, other[2])
    if is_riser(other):
        slot, number = number, slot
    twice = slot + number
    if not _is_on_the_way(ride, twice) or not _is_on_the_way(other, twice):
        return None
    return (twice, slot - number)


def _half(overlap, colour):
    """The halves, rounded down, of an overlap of this colour; None for another one."""
    if overlap is None or overlap[0] % 2 != colour:
        return None
    return (overlap[0] // 2, overlap[1] // 2)


def meeting(ride, other):
    """The pair (made, level) at which they meet; None if they do not."""
    return _half(_overlap(ride, other), 0)


def passing(ride, other):
    """The pair (made, stride) at which they pass; None if they do not."""
    return _half(_overlap(ride, other), 1)


def clash(ride, other):
    """The pair (made, level) at which they first want one platform; None if they do not clash."""
    if is_riser(ride) != is_riser(other) or not share_stride(ride, other):
        return None
    if mark_of(ride, ride[2]) != mark_of(other, other[2]):
        return None
    later = ride
    if other[2] > ride[2]:
        later = other
    return (later[2], later[0])


def _risers_and_sinkers(book):
    """The list of all pairs (riser, sinker) of men."""
    men = range(len(book))
    return [(one, two) for one in men if is_riser(book[one]) for two in men if not is_riser(book[two])]


def meetings(book):
    """The list, ascending, of (made, level, riser, sinker) of all meetings."""
    found = []
    for riser, sinker in _risers_and_sinkers(book):
        where = meeting(book[riser], book[sinker])
        if where is not None:
            found.append((where[0], where[1], riser, sinker))
    return sorted(found)


def clashes(book):
    """The list, ascending, of (made, level, man, other) of all clashes, man below other."""
    found = []
    for other in range(len(book)):
        for man in range(other):
            where = clash(book[man], book[other])
            if where is not None:
                found.append((where[0], where[1], man, other))
    return sorted(found)


def web(book):
    """The set of the pairs (riser, sinker) who overlap."""
    pairs = _risers_and_sinkers(book)
    return tuple([(one, two) for one, two in pairs if _overlap(book[one], book[two]) is not None])


def meeting_gaps(ride, other):
    """The set of the differences of the riser's ready less the sinker's with which they meet."""
    if not is_riser(ride) or is_riser(other):
        raise Unfit()
    # They meet at a level inside of both ways: there slot less number is twice this level.
    levels = range(max(ride[1], other[0]) + 1, min(ride[0], other[1]))
    return tuple([2 * level - ride[0] - other[0] for level in levels])


def _inverse(number, modulus):
    """The number from 0 below modulus that, times number, leaves 1 (0 for modulus 1)."""
    rest, next_rest = modulus, number % modulus
    factor, next_factor = 0, 1
    while next_rest > 0:
        times = rest // next_rest
        rest, next_rest = next_rest, rest - times * next_rest
        factor, next_factor = next_factor, factor - times * next_factor
    return factor % modulus


def _count_pairs(step, many, other_step, other_many, gap):
    """How many pairs of k below many and j below other_many have step * k - other_step * j == gap."""
    shared = gcd(step, other_step)
    if gap % shared != 0:
        return 0
    step, other_step, gap = step // shared, other_step // shared, gap // shared
    # j is at least 0 and below other_many, so k lies from low to high; it is told by its remainder.
    low = max(0, -(-gap // step))
    high = min(many - 1, (gap + other_step * (other_many - 1)) // step)
    first = low + (gap * _inverse(step, other_step) - low) % other_step
    if first > high:
        return 0
    return (high - first) // other_step + 1


def stream_meetings(stream, other):
    """How many pairs of a riser of stream and a sinker of other meet."""
    start, to, first, step, many = stream
    other_start, other_to, other_first, other_step, other_many = other
    gaps = meeting_gaps((start, to, first), (other_start, other_to, other_first))
    counts = [_count_pairs(step, many, other_step, other_many, gap - first + other_first) for gap in gaps]
    return sum(counts)
