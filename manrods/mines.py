"""Whole runs of a mine, rest by rest, with DEEDS and FAULTS [20]."""

from manrods.basics import is_ascending, is_count, is_number, is_tuple, tupled
from manrods.deeds import are_told
from manrods.errors import NoPlace, Unfit
from manrods.plays import Play, play_on
from manrods.rests import GRASS, LOST, first_crowd, is_crowd
from manrods.rides import is_book
from manrods.shafts import is_shaft
from manrods.waters import dry_held, is_held, is_waters
from manrods.wear import is_fault


def _is_engine(thing):
    """Whether thing is an ENGINE."""
    if thing is None:
        return True
    if not is_tuple(thing, 3):
        return False
    room, begin, stokes = thing
    if not is_count(room) or not is_count(begin) or begin > room:
        return False
    return isinstance(stokes, tuple) and stokes != () and all([is_count(stoke) for stoke in stokes])


def is_mine(thing):
    """Whether thing is a MINE."""
    if not is_tuple(thing, 4):
        return False
    shaft, waters, per, engine = thing
    if not is_shaft(shaft) or not is_waters(shaft[0], waters):
        return False
    return is_count(per) and per > 0 and _is_engine(engine)


def are_faults(mine, thing):
    """Whether thing are FAULTS of mine."""
    if not isinstance(thing, tuple):
        return False
    return all([is_fault(mine, fault) for fault in thing]) and is_ascending(thing)


def is_staffed(mine, book, faults):
    """Whether these are a MINE, a BOOK and FAULTS of a RUN, the men having room where they begin."""
    if not is_mine(mine) or not is_book(book, mine[0]):
        return False
    return are_faults(mine, faults) and is_crowd(first_crowd(book), mine[0], 0)


def is_run(thing):
    """Whether thing is a RUN."""
    if not is_tuple(thing, 5):
        return False
    mine, book, faults, told, many = thing
    if not is_staffed(mine, book, faults):
        return False
    return are_told(mine, len(book), len(faults), told) and is_count(many)


def _is_set_below(thing, limit):
    """Whether thing is a set of numbers from 0 below limit."""
    if not isinstance(thing, tuple) or not all([is_count(part) and part < limit for part in thing]):
        return False
    return is_ascending(thing)


def _is_steam(mine, thing):
    """Whether there can be so much steam in mine."""
    room = 0
    if mine[3] is not None:
        room = mine[3][0]
    return is_count(thing) and thing <= room


def is_standing(mine, book, faults, thing):
    """Whether thing is a STANDING."""
    if not is_tuple(thing, 9):
        return False
    rest, made, held, steam, men, aims, loose, mended, moved = thing
    if not is_count(rest) or not is_count(made) or not isinstance(moved, bool):
        return False
    if not is_held(mine[1], held) or not _is_steam(mine, steam) or not is_tuple(men, len(book)):
        return False
    if not _is_set_below(loose, len(mine[1])) or not _is_set_below(mended, len(faults)):
        return False
    return is_crowd((men, aims), mine[0], made)


def first_standing(mine, book):
    """The first STANDING."""
    begin = 0
    if mine[3] is not None:
        begin = mine[3][1]
    men, aims = first_crowd(book)
    return (0, 0, dry_held(mine[1]), begin, men, aims, (), (), True)


def play_from(mine, faults, standing):
    """The Play of mine from this STANDING on."""
    return Play(tupled(mine), tupled(faults), tupled(standing))


def can_do(mine, faults, standing, deed):
    """Whether this DEED can be done now."""
    return play_from(mine, faults, standing).can(deed)


def rest_done(mine, faults, standing, deeds):
    """The pair of the STANDING behind this rest and of what came out at the adit."""
    play = play_from(mine, faults, standing)
    for deed in tupled(deeds):
        play.do(deed)
    play.go()
    return (play.standing(), play.out())


class WholeRun:
    """A RUN played to its end: its play, and the list of the STANDINGS behind 0, 1 .. many rests."""

    def __init__(self, run):
        mine, book, faults, told, many = tupled(run)
        first = first_standing(mine, book)
        self.play = play_from(mine, faults, first)
        self.rows = [first, *play_on(self.play, told, many)]


def rests_of(run):
    """The list of the STANDINGS behind 0, 1 .. many rests."""
    return WholeRun(run).rows


def end_standing(run):
    """The last STANDING of run."""
    return rests_of(run)[-1]


def adit_of(run):
    """The tuple of what came out, rest by rest."""
    return tuple(WholeRun(run).play.books.outs)


def moved_in(run):
    """The tuple of whether the stroke was made, rest by rest."""
    return tuple([standing[8] for standing in rests_of(run)[1:]])


def _first_at(run, place):
    """The list, ascending, of the pairs (rests, man): the least number of rests behind which he is at this PLACE."""
    first = {}
    for rests, standing in enumerate(rests_of(run)):
        for man, own in enumerate(standing[4]):
            if own == place and man not in first:
                first[man] = rests
    return sorted([(rests, man) for man, rests in first.items()])


def home_in(run):
    """The list, ascending, of the pairs (rests, man): the least number of rests behind which he is on the grass."""
    return _first_at(run, GRASS)


def lost_in(run):
    """The list, ascending, of the pairs (rests, man): the least number of rests behind which he is lost."""
    return _first_at(run, LOST)


def with_bell(run, rest):
    """The RUN with the bell behind all DEEDS of this rest."""
    mine, book, faults, told, many = tupled(run)
    if not is_number(rest) or not 0 <= rest < many:
        raise NoPlace(rest)
    ahead = [pair for pair in told if pair[0] <= rest]
    return (mine, book, faults, (*ahead, (rest, ("bell",)), *told[len(ahead):]), many)


def are_all_home(standing):
    """Whether all men are on the grass."""
    return all([place == GRASS for place in standing[4]])


def _saves(run):
    """Whether all DEEDS of run can be done, and all men are on the grass at its end."""
    try:
        return are_all_home(end_standing(run))
    except Unfit:
        return False


def bells_that_save(run):
    """The set of the rests with whose bell all men are on the grass at the end."""
    # A DEED that cannot be done without the bell is refused, even if one of the bells makes it possible.
    rests_of(run)
    return tuple([rest for rest in range(run[4]) if _saves(with_bell(run, rest))])
