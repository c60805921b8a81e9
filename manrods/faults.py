"""What FAULTS do to a mine: with one of them, and without it [23]."""

from manrods.basics import is_number, tupled
from manrods.cuts import sprung_sums
from manrods.errors import NoPlace, Unfit
from manrods.mines import WholeRun
from manrods.rests import LOST
from manrods.told import is_easy
from manrods.waters import all_brought
from manrods.wear import broken_by, is_leak, leaks_by, live_faults, sprung_waters


def valves_at(mine, faults, made):
    """The tuple with, for each CISTERN, how much less its lift brings at made."""
    return leaks_by(mine[1], live_faults(faults, (), made))


def springs_at(mine, faults, made):
    """The tuple of the springs at made."""
    return tuple([cistern[2] for cistern in sprung_waters(mine[1], live_faults(faults, (), made))])


def broken_at(mine, faults, made):
    """The set of the PLATFORMS that are broken at made."""
    return broken_by(live_faults(tupled(faults), (), made))


class TwoRuns:
    """The RUN of many rests with all of faults, and that with all but number."""

    def __init__(self, mine, book, faults, number, many):
        if not is_number(number) or not 0 <= number < len(faults):
            raise NoPlace(number)
        told = tuple(faults)
        self.with_it = WholeRun((mine, book, told, (), many))
        self.without = WholeRun((mine, book, (*told[:number], *told[number + 1:]), (), many))


def dents(mine, book, faults, number, many):
    """The list, ascending, of the pairs (rest, change): how much more comes out at it with this FAULT."""
    runs = TwoRuns(mine, book, faults, number, many)
    pairs = list(zip(runs.with_it.play.books.outs, runs.without.play.books.outs))
    return [(rest, out - other) for rest, (out, other) in enumerate(pairs) if out != other]


def gauge_felt(mine, book, faults, number, many):
    """The least pair (rests, place): behind so many rests this CISTERN does not hold the same; None without."""
    runs = TwoRuns(mine, book, faults, number, many)
    for rests, row in enumerate(runs.with_it.rows):
        for place, amount in enumerate(row[2]):
            if amount != runs.without.rows[rests][2][place]:
                return (rests, place)
    return None


def taken_by(mine, book, faults, number, many):
    """The set of the men who are lost behind many rests with it and not without it."""
    runs = TwoRuns(mine, book, faults, number, many)
    pairs = list(zip(runs.with_it.play.men, runs.without.play.men))
    return tuple([man for man, (place, other) in enumerate(pairs) if place == LOST and other != LOST])


def is_calm(mine):
    """Whether mine is calm."""
    # Each lift gets just what springs in its CISTERN and in all ahead of it each swing, all of it in the end.
    return mine[3] is None and is_easy(mine[1])


def _is_gentle(waters, number, amount, since):
    """Whether the valve of this CISTERN of a calm MINE is gentle."""
    _, room, _, measure, _ = waters[number]
    most = sprung_sums(waters)[number] + amount
    if most > measure or (number > 0 and most > room):
        return False
    # What a lift takes never falls from stroke to stroke, so the first one decides.
    stroke = all_brought(waters[number:number + 1], since)
    come = [own for own in range(number + 1) if all_brought(waters[own:number + 1], 2) <= stroke]
    return amount <= sum([waters[own][2] for own in come])


def dent_of(mine, fault):
    """The pair (rest, amount) of the one rest at which less comes out by this gentle valve."""
    if not is_calm(mine) or not is_leak(mine[1], tupled(fault)):
        raise Unfit()
    _, number, amount, since = fault
    if not _is_gentle(mine[1], number, amount, since):
        raise Unfit()
    return (all_brought(mine[1][number:], since), amount)


def _stroke_to(waters, number, rest):
    """The made of the stroke of this lift from which water comes out at rest; None if none does."""
    # All its strokes, at every second made, take as long.
    first = 1 - waters[number][4]
    made = rest - all_brought(waters[number:], first) + first
    if made < 0:
        return None
    return made


def twins_of(mine, fault):
    """The list, ascending, of the triples (number, low, high) of the gentle valves with the same dent_of."""
    rest, amount = dent_of(mine, fault)
    found = []
    for number in range(len(mine[1])):
        made = _stroke_to(mine[1], number, rest)
        if made is not None and _is_gentle(mine[1], number, amount, made):
            found.append((number, max(0, made - 1), made))
    return found
