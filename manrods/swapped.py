"""Flights of lifts one above another, and lifts exchanged [14]."""

from manrods.basics import is_count, is_number, is_tuple, tupled
from manrods.errors import CanNot
from manrods.waters import check_cistern


def _is_lift(thing):
    """Whether thing is a pair (measure, rod)."""
    if not is_tuple(thing, 2):
        return False
    measure, rod = thing
    return is_count(measure) and measure > 0 and is_number(rod) and rod in (0, 1)


def is_flight(thing):
    """Whether thing is a FLIGHT."""
    return isinstance(thing, tuple) and thing != () and all([_is_lift(part) for part in thing])


def narrow_of(flight):
    """The least measure of flight."""
    return min([measure for measure, _ in flight])


def lag_of(flight):
    """How many lifts, the lowest apart, do not hang on rod 0 right above one on rod 1."""
    rods = [rod for _, rod in flight]
    pairs = list(zip(rods, rods[1:]))
    return len(pairs) - pairs.count((1, 0))


def _lift(flight, held, rod):
    """Let the lifts on this rod lift out of each of held, all at once: what each lifts."""
    lifted = [min(lift[0], amount) if lift[1] == rod else 0 for lift, amount in zip(flight, held)]
    for at, amount in enumerate(lifted):
        held[at] -= amount
        if at + 1 < len(held):
            held[at + 1] += amount
    return lifted


def _swing(flight, held, coming):
    """Play a swing on held, coming being what comes into each cistern: what is given."""
    given = _lift(flight, held, 1)[-1] + _lift(flight, held, 0)[-1]
    for at, amount in enumerate(coming):
        held[at] += amount
    return given


def given_row(flight, comes, swings):
    """The tuple of what is given in each of so many swings."""
    held, row = [0] * len(flight), []
    for swing in range(swings):
        row.append(_swing(flight, held, comes[swing:swing + 1]))
    return tuple(row)


def given_in_all(flight, comes, swings):
    """The sum of what is given in so many swings."""
    narrow, last = narrow_of(flight), swings - lag_of(flight) - 2
    if last < -1:
        return 0
    come = 0
    least = narrow * (last + 1)
    for swing, amount in enumerate(comes):
        if swing <= last:
            come += amount
            least = min(least, come + narrow * (last - swing))
    # Behind the last of comes nothing more comes, so of all later swings the last one counts.
    return min(least, come)


class FlightRun:
    """A FLIGHT that runs from dry, and the most that each cistern has held."""

    def __init__(self, flight):
        self.flight = flight
        self.held = [0] * len(flight)
        self.most = [0] * len(flight)

    def note(self):
        """Note what the cisterns hold now."""
        self.most = [max(one, two) for one, two in zip(self.most, self.held)]

    def go(self, amount):
        """Play a swing at whose end this amount comes: for each lift what it found and what it lifted."""
        found = [0] * len(self.flight)
        lifted = [0] * len(self.flight)
        for rod in (1, 0):
            for at, lift in enumerate(self.flight):
                if lift[1] == rod:
                    found[at] = self.held[at]
            lifted = [one + two for one, two in zip(lifted, _lift(self.flight, self.held, rod))]
            self.note()
        self.held[0] += amount
        self.note()
        return found, lifted

    def skip(self, found, gains):
        """Go on by swings that change each cistern by these gains, while each lift finds its measure as before.

        The last one of them is left to be played: within a swing a cistern may hold more than behind it.
        """
        spare = [(amount - lift[0]) // -gain for amount, lift, gain in zip(found, self.flight, gains) if gain < 0]
        swings = max(0, min(spare, default=0) - 1)
        self.held = [amount + swings * gain for amount, gain in zip(self.held, gains)]

    def finish(self):
        """Play until all is out, nothing coming any more."""
        lifted = []
        while any(self.held):
            ahead, last = list(self.held), lifted
            found, lifted = self.go(0)
            if lifted == last:
                # What is lifted stays so until a lift that had enough has not.
                self.skip(found, [behind - amount for amount, behind in zip(ahead, self.held)])


def least_rooms(flight, comes):
    """The tuple of the most that each cistern holds."""
    run = FlightRun(flight)
    for amount in comes:
        run.go(amount)
    run.finish()
    return tuple(run.most)


def gives_alike(flight, other):
    """Whether both give the same in each swing for all COMES."""
    return (narrow_of(flight), lag_of(flight)) == (narrow_of(other), lag_of(other))


def parting_comes(flight, other):
    """COMES with which they do not give the same."""
    if gives_alike(flight, other):
        raise CanNot()
    # One unit tells unlike lags, one more than the lesser narrow unlike narrows.
    if lag_of(flight) != lag_of(other):
        return (1,)
    return (min(narrow_of(flight), narrow_of(other)) + 1,)


def is_parting_comes(flight, other, thing):
    """Whether thing are COMES with which they do not give the same."""
    if not isinstance(thing, tuple) or not all([is_count(amount) for amount in thing]):
        return False
    if gives_alike(flight, other):
        return False
    most = max(thing, default=0)
    if lag_of(flight) != lag_of(other):
        return most > 0
    # With one lag just what is more than the lesser narrow is given otherwise.
    return most > min(narrow_of(flight), narrow_of(other))


def flights_of(waters):
    """The list, ascending, of the longest pairs (first, last) with springs of 0 in all but the first."""
    found, first = [], 0
    for number in range(1, len(waters) + 1):
        if number == len(waters) or waters[number][2] > 0:
            if number - 1 > first:
                found.append((first, number - 1))
            first = number
    return found


def measures_exchanged(waters, one, other):
    """The WATERS with the measures of both CISTERNS exchanged."""
    check_cistern(waters, one)
    check_cistern(waters, other)
    changed = list(tupled(waters))
    for number, source in ((one, other), (other, one)):
        level, room, spring, _, rod = waters[number]
        changed[number] = (level, room, spring, waters[source][3], rod)
    return tuple(changed)


def _free_row(waters):
    """What comes out in each swing of waters run freely, up to where it is the same each swing.

    What a lift brings a swing never falls and is the same from the swing behind that from which on
    this holds of the lift below it.
    """
    flight = [(measure, rod) for _, _, _, measure, rod in waters]
    held, row = [0] * len(flight), []
    for _ in range(len(flight) + 2):
        row.append(_swing(flight, held, [cistern[2] for cistern in waters]))
    return row


def may_exchange(waters, one, other):
    """Whether waters, run freely, bring the same to the adit with both measures exchanged."""
    return _free_row(measures_exchanged(waters, one, other)) == _free_row(waters)
