"""Runs of men, rest by rest, as a DAY tells [10]."""

from manrods.basics import is_ascending, is_level, is_number, is_tuple, tupled
from manrods.errors import NoPlace, TooMuch
from manrods.rests import LOST, barred, crowd_behind, first_crowd, is_rider, ready_crowd
from manrods.rides import strokes_of
from manrods.shafts import is_platform

MOST_RESTS = 400


def _are_calls(thing, shaft, book):
    """Whether thing is a set of calls: pairs of unlike men and levels."""
    if not isinstance(thing, tuple) or not all([is_tuple(call, 2) for call in thing]):
        return False
    for man, to in thing:
        if not is_number(man) or not 0 <= man < len(book) or not is_level(to, shaft[0]):
            return False
    return is_ascending([man for man, _ in thing])


def _are_platforms(thing, shaft):
    """Whether thing is a set of PLATFORMS of shaft."""
    if not isinstance(thing, tuple) or not all([is_platform(platform, shaft) for platform in thing]):
        return False
    return is_ascending(thing)


def _is_turn(thing, shaft, book):
    """Whether thing is a TURN."""
    if not is_tuple(thing, 4):
        return False
    calls, broken, moved, top = thing
    if not _are_calls(calls, shaft, book) or not _are_platforms(broken, shaft):
        return False
    return isinstance(moved, bool) and is_number(top) and 1 <= top <= shaft[0] + 1


def is_day(thing, shaft, book):
    """Whether thing is a DAY."""
    if not isinstance(thing, tuple) or thing == ():
        return False
    return all([_is_turn(turn, shaft, book) for turn in thing])


def _turn_at(day, rest):
    """The TURN by which this rest goes."""
    if rest < len(day):
        return day[rest]
    _, broken, moved, top = day[-1]
    return ((), broken, moved, top)


def made_behind(day, many):
    """How many strokes are made in so many rests."""
    told = [turn[2] for turn in day[:many]]
    further = 0
    if day[-1][2]:
        further = max(0, many - len(day))
    return told.count(True) + further


def _called(crowd, calls, made):
    """The CROWD with the AIMS of those who are called."""
    men, aims = crowd[0], list(crowd[1])
    for man, to in calls:
        if men[man] != LOST:
            aims[man] = (to, made)
    return (men, tuple(aims))


class MenRun:
    """A run of men that stands at the beginning of a rest, its calls done."""

    def __init__(self, shaft, book, day):
        self.shaft = shaft
        self.day = tupled(day)
        self.done = 0
        self.made = 0
        self.fresh = True
        self.behind = first_crowd(book)
        self.crowd = ()
        self.call()

    def call(self):
        """Do the calls of this rest; behind stays the CROWD without them."""
        self.crowd = _called(self.behind, self.turn()[0], self.made)

    def turn(self):
        """The TURN of this rest."""
        return _turn_at(self.day, self.done)

    def go(self):
        """Go through this rest, to the beginning of the next one."""
        _, broken, moved, top = self.turn()
        self.behind = crowd_behind(self.shaft, self.made, self.fresh, self.crowd, broken, moved, top)
        if moved:
            self.made += 1
        self.fresh = moved
        self.done += 1
        self.call()

    def barred_now(self):
        """The set of those barred at this rest."""
        return barred(self.shaft, self.made, self.fresh, self.crowd, self.turn()[1])

    def stepping_off(self):
        """The list of those who step off at this rest."""
        ready = ready_crowd(self.shaft, self.made, self.fresh, self.crowd, self.turn()[1])
        pairs = list(zip(self.crowd[0], ready[0]))
        return [man for man, (old, new) in enumerate(pairs) if is_rider(old) and not is_rider(new) and new != LOST]

    def seen(self):
        """What is seen behind the rests so far."""
        men, aims = self.behind
        shown = [None if aim is None else (aim[0], max(0, aim[1] - self.made)) for aim in aims]
        return (men, tuple(shown), self.made % 2, self.fresh)


def crowd_rows(shaft, book, day, many):
    """The list of the CROWDS behind 0, 1, .., many rests."""
    run = MenRun(shaft, book, day)
    rows = [run.behind]
    for _ in range(many):
        run.go()
        rows.append(run.behind)
    return rows


def day_round(shaft, book, day):
    """The pair (many, length) from which on, and in which, the same is seen again."""
    run = MenRun(shaft, book, day)
    first_seen = {}
    while run.done <= MOST_RESTS:
        if run.done >= len(day):
            seen = run.seen()
            if seen in first_seen:
                many = first_seen[seen]
                return (many, run.done - many)
            first_seen[seen] = run.done
        run.go()
    raise TooMuch()


def crowd_far(shaft, book, day, many):
    """The CROWD behind so many rests, however many."""
    first, length = day_round(shaft, book, day)
    # What is seen fixes the readies, too: one above made, told alike later, would mean the same made.
    if many > first:
        many = first + (many - first) % length
    return crowd_rows(shaft, book, day, many)[many]


def _has_come(crowd, man):
    """Whether man has come."""
    return crowd[1][man] is None and crowd[0][man] != LOST


def comes(shaft, book, day, man, many):
    """The least number of rests, to many, behind which man has come; None without."""
    if not 0 <= man < len(book):
        raise NoPlace(man)
    for rest, crowd in enumerate(crowd_rows(shaft, book, day, many)):
        if _has_come(crowd, man):
            return rest
    return None


def all_come(shaft, book, day, many):
    """The least number of rests, to many, behind which each has come or is lost; None without."""
    for rest, crowd in enumerate(crowd_rows(shaft, book, day, many)):
        if all([aim is None for aim in crowd[1]]):
            return rest
    return None


def lost_by(shaft, book, day, many):
    """The set of the men lost behind so many rests."""
    men = crowd_rows(shaft, book, day, many)[many][0]
    return tuple([man for man, place in enumerate(men) if place == LOST])


def barred_rows(shaft, book, day, many):
    """The list, ascending, of the pairs (rest, man) of those barred."""
    run = MenRun(shaft, book, day)
    rows = []
    for rest in range(many):
        rows.extend([(rest, man) for man in run.barred_now()])
        run.go()
    return rows


def late_by(shaft, book, day, many):
    """By how many strokes each man first steps off later than he could; None if he does not."""
    run = MenRun(shaft, book, day)
    late = [None] * len(book)
    for _ in range(many):
        for man in run.stepping_off():
            if late[man] is None:
                late[man] = run.made - book[man][2] - strokes_of(book[man])
        run.go()
    return tuple(late)
