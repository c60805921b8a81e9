"""A Board: a mine that is played deed by deed, and back [27]."""

from manrods.basics import tupled
from manrods.deeds import is_deed
from manrods.errors import NothingDone, Unfit
from manrods.mines import first_standing, play_from
from manrods.rests import GRASS, LOST, is_rider


class Board:
    """A live mine.

    now is the triple of the STANDING with all DEEDS done, of the told DEEDS and of what came out so far; done
    has the pairs of the name of each deed and of what was now ahead of it, undone those of what was behind it.
    """

    def __init__(self, mine, book, faults):
        self.mine, self.book, self.faults = tupled(mine), tupled(book), tupled(faults)
        self.now = (first_standing(self.mine, self.book), (), 0)
        self.done, self.undone = [], []

    def __eq__(self, other):
        """Whether other is a Board that holds the same, however it came to that."""
        if not isinstance(other, Board):
            return False
        if self.mine != other.mine or self.book != other.book or self.faults != other.faults:
            return False
        return self.now[0] == other.now[0]

    def play_by(self, deed):
        """The Play from now on, this DEED being done."""
        if not is_deed(self.mine, len(self.book), len(self.faults), deed):
            raise Unfit()
        play = play_from(self.mine, self.faults, self.now[0])
        play.do(deed)
        return play

    def put(self, name, now):
        """Let this be now, by a deed of this name."""
        self.done.append((name, self.now))
        self.undone = []
        self.now = now

    def do_deed(self, deed):
        """Do this DEED."""
        standing, told, came_out = self.now
        behind = self.play_by(deed).standing()
        self.put(deed[0], (behind, (*told, (standing[0], deed)), came_out))

    def board(self, man, to):
        """Let man board to this level."""
        self.do_deed(("board", man, to))

    def aside(self, man):
        """Let man step aside."""
        self.do_deed(("aside", man))

    def couple(self, number, yes):
        """Couple this lift, or uncouple it."""
        self.do_deed(("couple", number, yes))

    def cock(self, number, amount):
        """Let so much out of this CISTERN into the one below it."""
        self.do_deed(("cock", number, amount))

    def stoke(self, amount):
        """Let there be so much more steam."""
        self.do_deed(("stoke", amount))

    def mend(self, number):
        """Mend this FAULT."""
        self.do_deed(("mend", number))

    def bell(self):
        """Ring the bell."""
        self.do_deed(("bell",))

    def rests(self, many):
        """Let so many rests be done."""
        standing, told, came_out = self.now
        play = play_from(self.mine, self.faults, standing)
        for _ in range(many):
            play.go()
        self.put("rests", (play.standing(), told, came_out + play.out()))

    def undo(self):
        """Take the last deed back; its name."""
        if not self.done:
            raise NothingDone()
        name, ahead = self.done.pop()
        self.undone.append((name, self.now))
        self.now = ahead
        return name

    def redo(self):
        """Do again what was taken back last; its name."""
        if not self.undone:
            raise NothingDone()
        name, behind = self.undone.pop()
        self.done.append((name, self.now))
        self.now = behind
        return name

    def standing(self):
        """The STANDING behind the last rest, with what the DEEDS done since have changed."""
        return self.now[0]

    def told(self):
        """The told DEEDS, those done since the last rest, too."""
        return self.now[1]

    def run(self):
        """The RUN so far, without the DEEDS done since the last rest."""
        standing, told, _ = self.now
        behind = [pair for pair in told if pair[0] < standing[0]]
        return (self.mine, self.book, self.faults, tuple(behind), standing[0])

    def out(self):
        """How much came out at the adit so far."""
        return self.now[2]

    def men_at(self, place):
        """The set of the men at this PLACE."""
        return tuple([man for man, own in enumerate(self.now[0][4]) if own == place])

    def home(self):
        """The set of the men who are at the grass."""
        return self.men_at(GRASS)

    def lost(self):
        """The set of the men who are lost."""
        return self.men_at(LOST)

    def waiting(self):
        """The set of the men who are aside or at the grass with an AIM that is not None."""
        men, aims = self.now[0][4:6]
        pairs = list(zip(men, aims))
        return tuple([man for man, (place, aim) in enumerate(pairs) if aim is not None and not is_rider(place)])

    def home_ahead(self, many):
        """The tuple with, for each man, the least number of rests more behind which he is at the grass, or None."""
        return _home_ahead(play_from(self.mine, self.faults, self.now[0]), many)

    def effect(self, deed, many):
        """The pair of home_ahead as it is and as it would be with this DEED done now."""
        play = self.play_by(tupled(deed))
        return (self.home_ahead(many), _home_ahead(play, many))

    def twin(self):
        """Another Board that holds the same."""
        other = Board(self.mine, self.book, self.faults)
        other.now = self.now
        other.done, other.undone = list(self.done), list(self.undone)
        return other


def _home_ahead(play, many):
    """The tuple with, for each man, the least number of rests, to many, behind which he is at the grass, or None."""
    first = [None] * len(play.men)
    for rests in range(many + 1):
        if rests > 0:
            play.go()
        for man, place in enumerate(play.men):
            if place == GRASS and first[man] is None:
                first[man] = rests
    return tuple(first)
