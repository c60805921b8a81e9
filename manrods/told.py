"""What the adit tells of springs and leaks, and what only a gauge tells [24]."""

from manrods.basics import is_count, is_number, is_tuple, tupled
from manrods.cuts import is_roomy, sprung_sums
from manrods.errors import CanNot, TooMuch, Unfit
from manrods.waters import behind_rest, check_cistern, dry_held, way_out

MOST_CASES = 400


def is_easy(waters):
    """Whether waters are easy."""
    sums = sprung_sums(waters)
    return is_roomy(waters) and all([whole <= cistern[3] for whole, cistern in zip(sums, waters)])


class LeakyRun:
    """The plain run of waters from dry with a LEAK, of so many rests.

    rows has HELD behind 0, 1 .. rests, outs what comes out at each.
    """

    def __init__(self, waters, leak, many):
        self.rows, self.outs = [dry_held(waters)], []
        for rest in range(many):
            leaks = [0] * len(waters)
            if leak is not None and leak[3] <= rest:
                leaks[leak[1]] = leak[2]
            behind, out = behind_rest(waters, self.rows[-1], rest, rest, True, (), leaks)
            self.rows.append(behind)
            self.outs.append(out)


def leaky_row(waters, leak, many):
    """The row, a tuple, of so many rests."""
    return tuple(LeakyRun(waters, leak, many).outs)


def leaky_held(waters, leak, many):
    """HELD behind so many rests."""
    return LeakyRun(waters, leak, many).rows[-1]


def _lots(waters):
    """The list of the pairs (way_out, LOT), ascending."""
    numbers_of = {}
    for number in range(len(waters)):
        numbers_of.setdefault(way_out(waters, number), []).append(number)
    return sorted([(rest, tuple(numbers)) for rest, numbers in numbers_of.items()])


def _with_springs(waters, springs):
    """The WATERS with these springs."""
    pairs = list(zip(tupled(waters), springs))
    return tuple([(*cistern[:2], spring, *cistern[3:]) for cistern, spring in pairs])


def sums_told(waters, row):
    """The list of the pairs (LOT, sum), by way_out, of the springs that row tells."""
    lots = _lots(waters)
    if lots[-1][0] >= len(row):
        raise Unfit()
    told, springs = [], [0] * len(waters)
    for rest, numbers in lots:
        more = row[rest] - row[rest - 2]
        told.append((numbers, more))
        # What springs in the last CISTERN of a LOT goes through the fewest lifts and rooms.
        springs[numbers[-1]] = more
    own = _with_springs(waters, springs)
    if min(springs) < 0 or not is_easy(own) or leaky_row(own, None, len(row)) != tuple(row):
        raise Unfit()
    return told


def _all_springs(waters, most):
    """The list, ascending, of all springs from 0 to most."""
    rows = [()]
    for _ in waters:
        rows = [(*row, spring) for row in rows for spring in range(most + 1)]
    return rows


def _check_cases(waters, most, leaks):
    """Raise TooMuch if there are too many cases."""
    many = len(leaks)
    for _ in waters:
        many *= most + 1
    if many > MOST_CASES:
        raise TooMuch()


def _parting(row, other):
    """The first rest at which both rows, the second at least as long, are unlike; None if there is none."""
    for rest, out in enumerate(row):
        if out != other[rest]:
            return rest
    return None


class Cases:
    """All cases of waters, row, most and leaks, and the first rest at which the run of each is not as row."""

    def __init__(self, waters, row, most, leaks):
        _check_cases(waters, most, leaks)
        self.cases, self.partings = [], []
        for springs in _all_springs(waters, most):
            own = _with_springs(waters, springs)
            for place, leak in enumerate(leaks):
                self.cases.append((springs, place))
                self.partings.append(_parting(row, leaky_row(own, leak, len(row))))


def fits(waters, row, most, leaks):
    """The set of the FITS."""
    tried = Cases(waters, row, most, leaks)
    return tuple([case for case, rest in zip(tried.cases, tried.partings) if rest is None])


def is_fit(waters, row, most, leaks, thing):
    """Whether thing is a FIT."""
    found = fits(waters, row, most, leaks)
    if not is_tuple(thing, 2) or not is_tuple(thing[0], len(waters)) or not is_count(thing[1]):
        return False
    return all([is_count(spring) for spring in thing[0]]) and thing in found


def refusal(waters, row, most, leaks):
    """The REFUSAL."""
    tried = Cases(waters, row, most, leaks)
    if None in tried.partings:
        raise CanNot()
    return tuple(tried.partings)


def is_refusal(waters, row, most, leaks, thing):
    """Whether thing is the REFUSAL."""
    partings = tuple(Cases(waters, row, most, leaks).partings)
    if not is_tuple(thing, len(partings)) or not all([is_number(rest) for rest in thing]):
        return False
    return thing == partings


def _greatest_lot(waters, leaks, gauge):
    """How many of leaks at the most show alike on this gauge."""
    number, many = gauge
    shown = [leaky_held(waters, leak, many)[number] for leak in leaks]
    return max([shown.count(amount) for amount in shown])


def best_gauge(waters, leaks, gauges):
    """The first gauge with the fewest in the greatest of its lots of leaks that show alike."""
    for number, _ in gauges:
        check_cistern(waters, number)
    lots = [_greatest_lot(waters, leaks, gauge) for gauge in gauges]
    return tuple(gauges[lots.index(min(lots))])


def parting_gauge(waters, leak, other_leak, many):
    """The least pair (rests, number), rests to many, at which two LEAKS show unlike numbers; None without."""
    other = LeakyRun(waters, other_leak, many).rows
    for rests, row in enumerate(LeakyRun(waters, leak, many).rows):
        number = _parting(row, other[rests])
        if number is not None:
            return (rests, number)
    return None


def _may_spring(waters, number):
    """Whether waters can be easy with a spring above 0 in this CISTERN."""
    return all([cistern[1] > 0 for cistern in waters[max(1, number):]])


def frames_alike(waters, other):
    """Whether both have as many CISTERNS and like rows for all springs with which both are easy."""
    if len(waters) != len(other):
        return False
    # Rows of easy WATERS add up, so it is enough to ask for each spring by itself.
    told = [own for own in range(len(waters)) if _may_spring(waters, own) and _may_spring(other, own)]
    return all([way_out(waters, own) == way_out(other, own) for own in told])
