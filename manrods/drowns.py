"""Levels that drown, and what would keep them dry [15]."""

from manrods.basics import is_number, tupled
from manrods.errors import CanNot, NoPlace
from manrods.waters import behind_swing, check_cistern, dry_held, held_rows, is_held

# Places in a CISTERN.
ROOM = 1
SPRING = 2
MEASURE = 3


def _check_level(waters, level):
    """Raise NoPlace if level is none from 1 to deep."""
    if not is_number(level) or not 1 <= level <= waters[0][0]:
        raise NoPlace(level)


def _drowning(waters, per, level):
    """What the sump holds at the least when level is drowned."""
    return per * (waters[0][0] - level + 1)


def _enough(waters):
    """What the sump holds at the least when more in it changes nothing of what is above it.

    A lift that brings the room of the next CISTERN fills it, whatever more it brings spills back.
    """
    if len(waters) == 1:
        return waters[0][MEASURE]
    return min(waters[0][MEASURE], waters[1][ROOM])


class SumpRun:
    """The plain run from dry, until the sump holds least or each further swing does as the last one did.

    In an even rest nothing springs, and no CISTERN spills more than what was lifted into it: so the sump
    holds most behind swings. sumps is the list of what it holds behind 0, 1 .. of them; more is how much
    more the last one left in it; held is what is held behind that.
    """

    def __init__(self, waters, least):
        self.sumps = [0]
        self.more = 0
        self.held = dry_held(waters)
        enough = _enough(waters)
        while self.sumps[-1] < least:
            ahead = self.held
            self.held = behind_swing(waters, ahead)[0]
            self.sumps.append(self.held[0])
            self.more = self.held[0] - ahead[0]
            if self.held[1:] == ahead[1:] and (self.more == 0 or ahead[0] >= enough):
                break

    def first_rest(self, least):
        """The least number of rests behind which the sump holds least; None if it never does."""
        for swings, amount in enumerate(self.sumps):
            if amount >= least:
                return 2 * swings
        if self.more == 0:
            return None
        return 2 * (len(self.sumps) - 1 - (self.sumps[-1] - least) // self.more)


def drown_rest(waters, per, level):
    """The least number of rests behind which level is drowned; None if it never is."""
    _check_level(waters, level)
    least = _drowning(waters, per, level)
    return SumpRun(waters, least).first_rest(least)


def drown_rests(waters, per):
    """The tuple of drown_rest of the levels from 1 to deep."""
    run = SumpRun(waters, _drowning(waters, per, 1))
    levels = range(1, waters[0][0] + 1)
    return tuple([run.first_rest(_drowning(waters, per, level)) for level in levels])


def driest(waters, per):
    """The deepest level that the run never drowns."""
    # A deeper level drowns no later, so those that never drown are the uppermost ones.
    return drown_rests(waters, per).count(None)


def dam_of(waters, per, level):
    """The DAM of level that is least in each CISTERN."""
    _check_level(waters, level)
    least = _drowning(waters, per, level)
    run = SumpRun(waters, least)
    if run.first_rest(least) is not None:
        raise CanNot()
    return run.held


def is_dam(waters, per, level, thing):
    """Whether thing is a DAM of level."""
    _check_level(waters, level)
    if not is_held(waters, thing):
        return False
    rows = held_rows(waters, thing, 2)
    if max([held[0] for held in rows]) >= _drowning(waters, per, level):
        return False
    return all([new <= old for new, old in zip(rows[2], thing)])


def _changed(waters, number, place, value):
    """The WATERS with this value at this place of this CISTERN."""
    cisterns = list(tupled(waters))
    cisterns[number] = (*cisterns[number][:place], value, *cisterns[number][place + 1:])
    return tuple(cisterns)


def _stays_dry(waters, least):
    """Whether the sump never holds least."""
    return SumpRun(waters, least).first_rest(least) is None


def _least_value(waters, number, place, bounds, least):
    """The least value from bounds, low and high, at this place with which the sump never holds least.

    None if it does with the high one, as no greater value helps more than that.
    """
    low, high = bounds
    if not _stays_dry(_changed(waters, number, place, high), least):
        return None
    while low < high:
        middle = (low + high) // 2
        if _stays_dry(_changed(waters, number, place, middle), least):
            high = middle
        else:
            low = middle + 1
    return low


def _most_lifted(waters, number, least):
    """The measure of this lift beyond which a greater one changes nothing unless the sump holds least."""
    # It finds at most the room of its own CISTERN, and what is above that of the next one spills back.
    most = waters[number][ROOM]
    if number == 0:
        most = least
    if number + 1 < len(waters):
        most = min(most, waters[number + 1][ROOM])
    return max(1, most)


def lift_for(waters, per, level, number):
    """The least measure of this lift with which the run never drowns level; None if there is none."""
    _check_level(waters, level)
    check_cistern(waters, number)
    least = _drowning(waters, per, level)
    return _least_value(waters, number, MEASURE, (1, _most_lifted(waters, number, least)), least)


def cheapest_lift(waters, per, level):
    """The least pair (more, number): with so much more measure of this lift level is never drowned."""
    _check_level(waters, level)
    found = []
    for number, cistern in enumerate(waters):
        measure = lift_for(waters, per, level, number)
        if measure is not None:
            found.append((max(0, measure - cistern[MEASURE]), number))
    return min(found, default=None)


def spring_for(waters, per, level, number):
    """The greatest spring of this CISTERN with which the run never drowns level; None if there is none."""
    _check_level(waters, level)
    check_cistern(waters, number)
    least = _drowning(waters, per, level)
    if not _stays_dry(_changed(waters, number, SPRING, 0), least):
        return None
    # So much fills all rooms on the way down, and drowns the level, when it springs for the first time.
    low, high = 0, least + sum([cistern[ROOM] for cistern in waters[1:number + 1]])
    while high - low > 1:
        middle = (low + high) // 2
        if _stays_dry(_changed(waters, number, SPRING, middle), least):
            low = middle
        else:
            high = middle
    return low


def room_for(waters, per, level, number):
    """The least room of this CISTERN with which the run never drowns level; None if there is none."""
    _check_level(waters, level)
    check_cistern(waters, number)
    if number == 0:
        raise NoPlace(number)
    # What comes in each swing never falls: up to the measure of the lift all of it goes on, room enough;
    # what is above that fills any room in the end.
    return _least_value(waters, number, ROOM, (0, waters[number][MEASURE]), _drowning(waters, per, level))
