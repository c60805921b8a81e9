"""A mine that is played rest by rest, and what is booked of it on the way [20], [21]."""

from manrods.engines import is_stroke_made, steam_behind, stroke_weight
from manrods.errors import Unfit
from manrods.rests import GRASS, LOST, carried, is_rider, level_of, ready_crowd, soaked
from manrods.waters import dry_held, drowned_top, water_told
from manrods.wear import broken_by, leaks_by, live_faults, sprung_waters


def _add(sums, amounts):
    """Add each of amounts to what stands at its place in sums."""
    for place, amount in enumerate(amounts):
        sums[place] += amount


class Books:
    """What is booked of a play.

    Of each CISTERN what came, was lifted, spilt, let; what came out rest by rest; of steam what was given,
    spent, over; of each man and of each stride the pair of how often it went up, down.
    """

    def __init__(self, mine, men, steam):
        none = dry_held(mine[1])
        self.came, self.lifted, self.spilt, self.let = list(none), list(none), list(none), list(none)
        self.given, self.spent, self.over = steam, 0, 0
        self.outs = []
        self.man_ways = [[0, 0] for _ in range(men)]
        self.stride_ways = [[0, 0] for _ in range(mine[0][0])]

    def book_stride(self, man, level, behind):
        """Book that the stroke carries man from level to behind."""
        way = int(behind > level)
        self.man_ways[man][way] += 1
        self.stride_ways[min(level, behind)][way] += 1

    def book_let(self, number, amount):
        """Book that so much was let out of this CISTERN."""
        self.let[number] += amount

    def book_water(self, sprung, brought, spilt):
        """Book the water of a rest."""
        _add(self.came, sprung)
        _add(self.lifted, brought)
        _add(self.spilt, spilt)
        self.outs.append(brought[-1])

    def book_steam(self, ahead, spent, more, left):
        """Book that of so much ahead so much was spent, then came more, and so much is left."""
        self.spent += spent
        self.given += more
        self.over += ahead - spent + more - left


class Play:
    """A mine that is played on from a STANDING."""

    def __init__(self, mine, faults, standing):
        self.mine, self.faults = mine, faults
        self.rest, self.made, self.held, self.steam, self.men, self.aims = standing[:6]
        self.loose, self.mended, self.moved = standing[6:]
        self.books = Books(mine, len(self.men), self.steam)

    def standing(self):
        """The STANDING now, the DEEDS done since the last rest being in it."""
        water = (self.rest, self.made, self.held, self.steam)
        return (*water, self.men, self.aims, self.loose, self.mended, self.moved)

    def out(self):
        """How much came out at the adit so far."""
        return self.books.lifted[-1]

    def can(self, deed):
        """Whether this DEED can be done now."""
        kind = deed[0]
        if kind == "board":
            place = self.men[deed[1]]
            return place != LOST and not is_rider(place) and level_of(place) != deed[2]
        if kind == "aside":
            return is_rider(self.men[deed[1]])
        if kind == "couple":
            return (deed[1] in self.loose) == deed[2]
        if kind == "cock":
            return deed[1] > 0 and self.held[deed[1]] >= deed[2]
        if kind == "stoke":
            return self.mine[3] is not None
        return kind == "bell" or deed[1] not in self.mended

    def do(self, deed):
        """Do this DEED."""
        if not self.can(deed):
            raise Unfit()
        kind = deed[0]
        if kind == "couple":
            self.couple(deed[1], deed[2])
        elif kind == "cock":
            self.let_down(deed[1], deed[2])
        elif kind == "stoke":
            self.stoke(deed[1])
        elif kind == "mend":
            self.mended = tuple(sorted([*self.mended, deed[1]]))
        else:
            self.aims = self.aims_by(deed)

    def couple(self, number, yes):
        """Couple this lift, or uncouple it."""
        loose = [own for own in self.loose if own != number]
        if not yes:
            loose.append(number)
        self.loose = tuple(sorted(loose))

    def let_down(self, number, amount):
        """Let so much out of this CISTERN into the one below it."""
        held = list(self.held)
        held[number] -= amount
        held[number - 1] += amount
        self.held = tuple(held)
        self.books.book_let(number, amount)

    def stoke(self, amount):
        """Let there be so much more steam, at most the room."""
        steam = min(self.mine[3][0], self.steam + amount)
        self.books.book_steam(self.steam, 0, amount, steam)
        self.steam = steam

    def aims_by(self, deed):
        """The tuple of the AIMS by this DEED."""
        aims = list(self.aims)
        if deed[0] == "board":
            aims[deed[1]] = (deed[2], self.made)
        elif deed[0] == "aside":
            aims[deed[1]] = (level_of(self.men[deed[1]]), self.made)
        else:
            aims = [aim if place in (GRASS, LOST) else (0, self.made) for place, aim in zip(self.men, aims)]
        return tuple(aims)

    def go(self):
        """Go through the rest, its DEEDS being done."""
        live = live_faults(self.faults, self.mended, self.made)
        leaks = leaks_by(self.mine[1], live)
        crowd = ready_crowd(self.mine[0], self.made, self.moved, (self.men, self.aims), broken_by(live))
        self.moved = is_stroke_made(self.mine, self.held, self.made, self.steam, self.loose, leaks)
        spent = 0
        if self.moved:
            spent = stroke_weight(self.mine, self.held, self.made, self.loose, leaks)
            crowd = self.carry(crowd)
        self.let_flow(sprung_waters(self.mine[1], live), leaks)
        self.burn(spent)
        self.men, self.aims = soaked(crowd, drowned_top(self.mine[0][0], self.mine[2], self.held))
        self.made += int(self.moved)
        self.rest += 1

    def carry(self, crowd):
        """The CROWD behind the stroke, which is booked."""
        behind = carried(self.made, crowd)
        for man, place in enumerate(crowd[0]):
            if is_rider(place):
                self.books.book_stride(man, level_of(place), level_of(behind[0][man]))
        return behind

    def let_flow(self, waters, leaks):
        """Let the water of this rest be done, waters having the springs that there are now."""
        told = water_told(waters, self.held, self.rest, self.made, self.moved, self.loose, leaks)
        self.held, brought, spilt = told
        sprung = dry_held(waters)
        if self.rest % 2 == 1:
            sprung = [cistern[2] for cistern in waters]
        self.books.book_water(sprung, brought, spilt)

    def burn(self, spent):
        """Let there be the steam behind this rest, whose stroke took so much."""
        if self.mine[3] is None:
            return
        stokes = self.mine[3][2]
        steam = steam_behind(self.mine, self.rest, self.steam, spent)
        self.books.book_steam(self.steam, spent, stokes[self.rest % len(stokes)], steam)
        self.steam = steam


def play_on(play, told, many):
    """Play so many rests with the DEEDS told for them; the list of the STANDINGS behind each of them."""
    deeds_of = {}
    for rest, deed in told:
        deeds_of.setdefault(rest, []).append(deed)
    rows = []
    for _ in range(many):
        for deed in deeds_of.get(play.rest, []):
            play.do(deed)
        play.go()
        rows.append(play.standing())
    return rows
