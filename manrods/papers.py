"""The PAPERS for and against CLAIMS, kind by kind [25]."""

from manrods.basics import is_count, is_tuple
from manrods.bells import all_saved, is_lot, is_saving, lot, saving
from manrods.cuts import excesses, greatest_cut, growth, sprung_sums
from manrods.dances import first_bar, is_bar, nobody_barred
from manrods.engines import first_lack, is_lack, lone_rows, missed_strokes
from manrods.errors import Unfit
from manrods.mines import WholeRun, are_all_home
from manrods.rests import GRASS
from manrods.rounds import is_round, round_of
from manrods.told import fits, is_fit, is_refusal, refusal
from manrods.waits import is_free, is_waits, least_waits, waited_book


class FreeCase:
    """What is asked of a CLAIM: whether it is so, a PAPER for it if it is, against it if not, and what is one."""

    def __init__(self, parts):
        self.shaft, self.book = parts

    def so(self):
        """Whether it is so."""
        return nobody_barred(self.shaft, self.book)

    def pro(self):
        """A PAPER for it, which is so."""
        return ()

    def con(self):
        """A PAPER against it, which is not so."""
        return first_bar(self.shaft, self.book)

    def is_pro(self, thing):
        """Whether thing is a PAPER for it, which is so."""
        return thing == ()

    def is_con(self, thing):
        """Whether thing is a PAPER against it, which is not so."""
        return is_bar(self.shaft, self.book, thing)


class WaitsCase:
    """The same for a CLAIM of this name; so the next ones."""

    def __init__(self, parts):
        self.shaft, self.book, self.many = parts

    def so(self):
        """Whether it is so."""
        return sum(least_waits(self.shaft, self.book)) <= self.many

    def pro(self):
        """A PAPER for it."""
        return least_waits(self.shaft, self.book)

    def con(self):
        """A PAPER against it."""
        return ()

    def is_pro(self, thing):
        """Whether thing is a PAPER for it."""
        if not is_waits(thing, self.book) or sum(thing) > self.many:
            return False
        return is_free(self.shaft, waited_book(self.book, thing))

    def is_con(self, thing):
        """Whether thing is a PAPER against it."""
        return thing == ()


class SavedCase:
    """The same for a CLAIM of this name."""

    def __init__(self, parts):
        self.lasts, self.bars, self.muster = parts

    def so(self):
        """Whether it is so."""
        return all_saved(self.lasts, self.bars, self.muster)

    def pro(self):
        """A PAPER for it."""
        return saving(self.lasts, self.bars, self.muster)

    def con(self):
        """A PAPER against it."""
        return lot(self.lasts, self.bars, self.muster)

    def is_pro(self, thing):
        """Whether thing is a PAPER for it."""
        return is_saving(self.lasts, self.bars, self.muster, thing)

    def is_con(self, thing):
        """Whether thing is a PAPER against it."""
        return is_lot(self.lasts, self.bars, self.muster, thing)


class CutCase:
    """The same for a CLAIM of this name."""

    def __init__(self, parts):
        self.waters, self.many = parts

    def so(self):
        """Whether it is so."""
        return growth(self.waters) >= self.many

    def pro(self):
        """A PAPER for it."""
        return greatest_cut(self.waters)

    def con(self):
        """A PAPER against it: the FLOW in which each lift brings all that it can."""
        flow, amount = [], 0
        for cistern in self.waters:
            amount = min(cistern[3], cistern[2] + amount)
            flow.append(amount)
        return tuple(flow)

    def is_pro(self, thing):
        """Whether thing is a PAPER for it."""
        return is_count(thing) and thing < len(self.waters) and excesses(self.waters)[thing] >= self.many

    def is_con(self, thing):
        """Whether thing is a PAPER against it."""
        if not is_tuple(thing, len(self.waters)) or not all([is_count(amount) for amount in thing]):
            return False
        ahead = (0, *thing[:-1])
        for amount, coming, cistern in zip(thing, ahead, self.waters):
            if amount > cistern[3] or amount > cistern[2] + coming:
                return False
        return thing[-1] > sprung_sums(self.waters)[-1] - self.many


class SteamCase:
    """The same for a CLAIM of this name."""

    def __init__(self, parts):
        self.mine, self.many = parts

    def so(self):
        """Whether it is so."""
        return missed_strokes(self.mine, self.many) == ()

    def pro(self):
        """A PAPER for it."""
        return tuple([row[2] for row in lone_rows(self.mine, self.many)[:-1]])

    def con(self):
        """A PAPER against it."""
        return first_lack(self.mine, self.many)

    def is_pro(self, thing):
        """Whether thing is a PAPER for it."""
        return is_tuple(thing, self.many) and all([is_count(steam) for steam in thing]) and thing == self.pro()

    def is_con(self, thing):
        """Whether thing is a PAPER against it."""
        return is_lack(self.mine, self.many, thing)


class AgainCase:
    """The same for a CLAIM of this name."""

    def __init__(self, parts):
        self.mine, self.book, self.faults = parts

    def so(self):
        """Whether it is so."""
        return self.pro()[2] == 0

    def pro(self):
        """A PAPER for it."""
        return round_of(self.mine, self.book, self.faults)

    def con(self):
        """A PAPER against it: no ROUND grows if one does not, so whether it is so tells which one it is."""
        return self.pro()

    def is_pro(self, thing):
        """Whether thing is a PAPER for it."""
        return is_round(self.mine, self.book, self.faults, thing)

    def is_con(self, thing):
        """Whether thing is a PAPER against it."""
        return is_round(self.mine, self.book, self.faults, thing)


class FitsCase:
    """The same for a CLAIM of this name."""

    def __init__(self, parts):
        self.waters, self.row, self.most, self.leaks = parts

    def so(self):
        """Whether it is so."""
        return fits(self.waters, self.row, self.most, self.leaks) != ()

    def pro(self):
        """A PAPER for it."""
        return fits(self.waters, self.row, self.most, self.leaks)[0]

    def con(self):
        """A PAPER against it."""
        return refusal(self.waters, self.row, self.most, self.leaks)

    def is_pro(self, thing):
        """Whether thing is a PAPER for it."""
        return is_fit(self.waters, self.row, self.most, self.leaks, thing)

    def is_con(self, thing):
        """Whether thing is a PAPER against it."""
        return is_refusal(self.waters, self.row, self.most, self.leaks, thing)


class HomeCase:
    """The same for a CLAIM of this name; rows has the STANDINGS of the RUN, none if some DEED cannot be done."""

    def __init__(self, parts):
        self.men = len(parts[0][1])
        try:
            self.rows = WholeRun(parts[0]).rows
        except Unfit:
            self.rows = []

    def so(self):
        """Whether it is so."""
        return self.rows != [] and are_all_home(self.rows[-1])

    def home_from(self, man):
        """The least number of rests from which on man is at the grass to the end."""
        rests = len(self.rows)
        while rests > 0 and self.rows[rests - 1][4][man] == GRASS:
            rests -= 1
        return rests

    def pro(self):
        """A PAPER for it."""
        return tuple([self.home_from(man) for man in range(self.men)])

    def con(self):
        """A PAPER against it."""
        if not self.rows:
            return ()
        return [man for man in range(self.men) if self.home_from(man) == len(self.rows)][0]

    def is_pro(self, thing):
        """Whether thing is a PAPER for it."""
        if not is_tuple(thing, self.men) or not all([is_count(rests) and rests < len(self.rows) for rests in thing]):
            return False
        return all([rests >= own for rests, own in zip(thing, self.pro())])

    def is_con(self, thing):
        """Whether thing is a PAPER against it."""
        if not self.rows:
            return thing == ()
        return is_count(thing) and thing < self.men and self.home_from(thing) == len(self.rows)


def case_of(claim):
    """What is asked of this CLAIM."""
    kind, parts = claim[0], claim[1:]
    if kind == "free":
        return FreeCase(parts)
    if kind == "waits":
        return WaitsCase(parts)
    if kind == "saved":
        return SavedCase(parts)
    if kind == "cut":
        return CutCase(parts)
    if kind == "steam":
        return SteamCase(parts)
    if kind == "again":
        return AgainCase(parts)
    if kind == "fits":
        return FitsCase(parts)
    return HomeCase(parts)
