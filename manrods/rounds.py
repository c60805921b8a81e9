"""Rounds: what runs without DEEDS come to in the end, however far [22]."""

from math import lcm

from manrods.basics import is_count, is_number, is_tuple
from manrods.errors import NoPlace, TooMuch
from manrods.mines import first_standing, play_from
from manrods.rests import is_rider
from manrods.waters import drowned_levels

MOST_RESTS = 4000


def _is_calm(faults, standing):
    """Whether nothing is to come."""
    made = standing[1]
    if any([fault[-1] > made for fault in faults]):
        return False
    # Who has an AIM and does not ride has not boarded yet: without DEEDS who is off, or lost, has none.
    waiting = [aim for place, aim in zip(standing[4], standing[5]) if aim is not None and not is_rider(place)]
    return all([aim[1] <= made for aim in waiting])


class Watch:
    """What was seen of a run so far, rest by rest, by which a ROUND may show itself.

    known tells behind how many rests a view with what the sump held was; above, likewise, the least that it
    held since it is the brim or more. A view is told with made, and without it if nothing was to come.
    """

    def __init__(self, mine, faults):
        self.faults = faults
        self.brim = max(mine[1][0][3], mine[2] * mine[0][0])
        self.beat = 2
        if mine[3] is not None:
            self.beat = lcm(2, len(mine[3][2]))
        self.known, self.above = {}, {}

    def earlier(self, standing):
        """The number of rests ahead with which this STANDING makes a ROUND; None without."""
        rest, made, held = standing[:3]
        view = (rest % self.beat, made % 2, held[1:], standing[3:])
        found = self.found(((view, made), (view, None)), held[0])
        keys = [(view, made)]
        if _is_calm(self.faults, standing):
            keys.append((view, None))
        self.note(keys, held[0], rest)
        return found

    def found(self, keys, sump):
        """The number of rests behind which one of these views was, in a way that makes a ROUND; None without."""
        for key in keys:
            if (key, sump) in self.known:
                return self.known[(key, sump)]
            if key in self.above and self.above[key][0] < sump:
                return self.above[key][1]
        return None

    def note(self, keys, sump, rest):
        """Note that these views are seen behind so many rests."""
        if sump < self.brim:
            self.above = {}
        for key in keys:
            self.known[(key, sump)] = rest
            if sump >= self.brim:
                self.above[key] = min(self.above.get(key, (sump, rest)), (sump, rest))


class LongRun:
    """The run of a mine without DEEDS, played until a ROUND shows itself, and told from there on.

    rows has the STANDINGS behind 0, 1 .. rests, outs what came out in them; the ROUND has lead and length.
    """

    def __init__(self, mine, book, faults):
        play = play_from(mine, faults, first_standing(mine, book))
        watch = Watch(play.mine, play.faults)
        self.rows, self.outs = [play.standing()], [0]
        lead = watch.earlier(self.rows[0])
        while lead is None:
            if play.rest == MOST_RESTS:
                raise TooMuch()
            play.go()
            self.rows.append(play.standing())
            self.outs.append(play.out())
            lead = watch.earlier(self.rows[-1])
        self.lead, self.length = lead, len(self.rows) - 1 - lead

    def growth(self):
        """How much more the sump holds behind a ROUND."""
        return self.rows[-1][2][0] - self.rows[self.lead][2][0]

    def folded(self, rests):
        """The pair of the number of ROUNDS left out, and of the rests that are left then, so that they are told."""
        rounds = max(0, (rests - self.lead) // self.length)
        return (rounds, rests - rounds * self.length)

    def standing_at(self, rests):
        """The STANDING behind so many rests."""
        rounds, near = self.folded(rests)
        strokes = self.rows[-1][1] - self.rows[self.lead][1]
        _, made, held = self.rows[near][:3]
        sump = held[0] + rounds * self.growth()
        return (rests, made + rounds * strokes, (sump, *held[1:]), *self.rows[near][3:])

    def out_at(self, rests):
        """How much came out in so many rests."""
        rounds, near = self.folded(rests)
        return self.outs[near] + rounds * (self.outs[-1] - self.outs[self.lead])

    def goes_round(self, rests, length, growth):
        """Whether the STANDING behind length rests more is as a ROUND with this growth has it."""
        one, two = self.standing_at(rests), self.standing_at(rests + length)
        if one[1] % 2 != two[1] % 2 or one[2][0] + growth != two[2][0]:
            return False
        return one[2][1:] == two[2][1:] and one[3:] == two[3:]

    def growth_by(self, length):
        """The growth of a ROUND with this length; None if there is none from lead on."""
        growth = self.standing_at(self.lead + length)[2][0] - self.rows[self.lead][2][0]
        for rests in range(self.lead, self.lead + self.length):
            if not self.goes_round(rests, length, growth):
                return None
        return growth

    def least_round(self):
        """The ROUND with the least lead and length."""
        length = 1
        # The lengths of all others are multiples of the least one.
        while self.length % length != 0 or self.growth_by(length) is None:
            length += 1
        growth, lead = self.growth_by(length), self.lead
        while lead > 0 and self.goes_round(lead - 1, length, growth):
            lead -= 1
        return (lead, length, growth)

    def turning(self):
        """The list of the STANDINGS of one ROUND."""
        return self.rows[self.lead:-1]


def round_of(mine, book, faults):
    """The ROUND with the least lead and length."""
    return LongRun(mine, book, faults).least_round()


def is_round(mine, book, faults, thing):
    """Whether thing is a ROUND."""
    if not is_tuple(thing, 3) or not all([is_count(part) for part in thing]) or thing[1] == 0:
        return False
    lead, length, growth = round_of(mine, book, faults)
    return thing[0] >= lead and thing[1] % length == 0 and thing[2] == growth * (thing[1] // length)


def far_standing(mine, book, faults, rest):
    """The STANDING behind so many rests."""
    return LongRun(mine, book, faults).standing_at(rest)


def adit_far(mine, book, faults, rest):
    """How much comes out at the adit in so many rests."""
    return LongRun(mine, book, faults).out_at(rest)


def drowned_from(mine, book, faults, level):
    """The least number of rests behind which level is drowned; None if it never is."""
    deep = mine[0][0]
    if not is_number(level) or not 0 <= level <= deep:
        raise NoPlace(level)
    # A ROUND that grows shows itself only where the sump holds the brim, which drowns all levels but the grass.
    rows = LongRun(mine, book, faults).rows
    least = mine[2] * (deep - level + 1)
    return min([rests for rests, row in enumerate(rows) if level > 0 and row[2][0] >= least], default=None)


def for_good(mine, book, faults):
    """The set of the levels that are drowned behind each number of rests from some one on."""
    least = min([row[2] for row in LongRun(mine, book, faults).turning()])
    return drowned_levels(mine[0][0], mine[2], least)


def last_place(mine, book, faults, man):
    """The PLACE at which man is behind each number of rests from some one on; None if there is none."""
    if not is_number(man) or not 0 <= man < len(book):
        raise NoPlace(man)
    places = [row[4][man] for row in LongRun(mine, book, faults).turning()]
    if places.count(places[0]) < len(places):
        return None
    return places[0]
