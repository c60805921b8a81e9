"""Rides, their slots, numbers and colours [5]."""

from manrods.basics import is_count, is_level, is_tuple
from manrods.errors import Unfit
from manrods.shafts import riser_platform, sinker_platform


def is_ride(thing, shaft):
    """Whether thing is a RIDE for shaft."""
    if not is_tuple(thing, 3):
        return False
    start, to, ready = thing
    if not is_level(start, shaft[0]) or not is_level(to, shaft[0]):
        return False
    return start != to and is_count(ready)


def is_book(thing, shaft):
    """Whether thing is a BOOK for shaft."""
    return isinstance(thing, tuple) and all([is_ride(ride, shaft) for ride in thing])


def is_riser(ride):
    """Whether the man of ride rises."""
    return ride[1] < ride[0]


def strokes_of(ride):
    """How many strokes ride takes."""
    return abs(ride[0] - ride[1])


def mark_of(ride, board):
    """The slot of a riser, the number of a sinker, who boards at board."""
    if is_riser(ride):
        return board + ride[0]
    return board - ride[0]


def board_of(ride, mark):
    """The made at which he boards with this mark."""
    board = mark + ride[0]
    if is_riser(ride):
        board = mark - ride[0]
    if board < 0:
        raise Unfit()
    return board


def colour_of(mark):
    """The colour of a slot or number."""
    return mark % 2


def end_of(ride, board):
    """The made at which he is at the end."""
    return board + strokes_of(ride)


def level_at(ride, board, made):
    """The level at which he is at made."""
    ridden_so_far = min(max(made - board, 0), strokes_of(ride))
    if is_riser(ride):
        return ride[0] - ridden_so_far
    return ride[0] + ridden_so_far


def platform_at(shaft, ride, board, made):
    """The PLATFORM on which he stands when the stroke behind made begins; None if on none."""
    if not board <= made < end_of(ride, board):
        return None
    level = level_at(ride, board, made)
    if is_riser(ride):
        return riser_platform(shaft, level, made)
    return sinker_platform(shaft, level, made)


def ridden(shaft, ride, board):
    """The list of the PLATFORMS of ride, stroke by stroke."""
    return [platform_at(shaft, ride, board, made) for made in range(board, end_of(ride, board))]


def passes(ride, stride):
    """Whether ride goes over this stride."""
    return min(ride[0], ride[1]) <= stride < max(ride[0], ride[1])


def share_stride(ride, other):
    """Whether both rides go over some stride."""
    upper = max(min(ride[0], ride[1]), min(other[0], other[1]))
    return passes(ride, upper) and passes(other, upper)


def first_marks(book):
    """The list of the marks if each man boards when he is ready."""
    return [mark_of(ride, ride[2]) for ride in book]


def later_book(book, many):
    """The BOOK in which each is ready so many strokes later."""
    return tuple([(start, to, ready + many) for start, to, ready in book])


def turned_book(book):
    """The BOOK of all ways back, each ready when he would be at the end."""
    return tuple([(ride[1], ride[0], end_of(ride, ride[2])) for ride in book])
