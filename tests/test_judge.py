"""[25]: one judge."""

import itertools
import unittest

from helpers import ODD_THINGS, LonePlay, check_manners, deep_thing, dice_of, listed, outcome, random_book, random_mine, same, shaft_of, spoilt
from manrods.bells import are_bars, is_lasts, is_lot, is_muster, is_saving
from manrods.errors import TooMuch, Unfit
from manrods.judge import (
    comes_of, first_false, is_claim, is_paper_against, is_paper_for, is_so, paper, verdicts)
from manrods.meetings import clashes, meetings
from manrods.rounds import is_round, round_of
from manrods.told import is_fit, is_refusal
from mineplay import GRASS, play_by_hand, random_deed, random_run
from test_mines import are_faults_by_hand, is_count, is_mine_by_hand, is_run_by_hand
from test_rounds import LongPlay
from test_told import leaky_play, random_frame, random_leak, with_springs

TIGHT, CROSS = (4, False, (0, 1, 1, 1, 1)), ((4, 0, 0), (0, 4, 0))
WELLS = ((6, 0, 2, 3, 1), (4, 5, 1, 4, 0), (2, 6, 2, 4, 1))
MILL = ((4, True, (0, 0, 0, 0, 0)), ((4, 0, 3, 3, 0), (2, 6, 1, 4, 1)), 4, (10, 4, (5, 8)))
POND = ((2, True, (0, 0, 0)), ((2, 0, 3, 1, 0),), 2, None)
NARROW = ((4, False, (0, 0, 0, 0, 1)), ((4, 0, 0, 1, 0),), 1, None)
PIT = ((3, True, (0, 9, 9, 9)), ((3, 0, 1, 2, 0),), 9, None)
CLIMB, DIG = (PIT, ((2, 0, 0),), (), (), 6), (PIT, ((1, 3, 0),), (), (), 6)
LATE = (PIT, ((2, 0, 0),), (("valve", 0, 1, 2),), ((2, ("mend", 0)), (3, ("bell",)), (9, ("stoke", 1))), 6)
ROW, LEAKS = (0, 0, 0, 1, 0, 3), (None, ("valve", 0, 2, 4))
BROOK = ((5, 0, 2, 9, 1), (3, 9, 1, 9, 0), (1, 9, 3, 9, 0))
SEVEN = tuple([(4, 0, at) for at in range(4)] + [(0, 4, at) for at in range(3)])

# A CLAIM of each kind that is so, and one that is not.
SO = (
    ("free", TIGHT, CROSS[:1]), ("waits", TIGHT, CROSS, 1), ("saved", (9, 5, 2), ((0, 0, 4),), ((3, 0), (3, 0))),
    ("cut", WELLS, 1), ("steam", MILL, 3), ("again", NARROW, CROSS, ()), ("fits", BROOK, ROW, 1, LEAKS), ("home", CLIMB))
NOT_SO = (
    ("free", TIGHT, CROSS), ("waits", TIGHT, CROSS, 0), ("saved", (9, 5, 2), ((0, 0, 4),), ((3, 1), (3, 1), (3, 1))),
    ("cut", WELLS, 2), ("steam", MILL, 10), ("again", POND, (), ()), ("fits", BROOK, ROW[:4] + (0, 0), 1, LEAKS), ("home", DIG))
TOO_MUCH = (
    ("waits", TIGHT, SEVEN, 3), ("again", NARROW, ((4, 0, 9000),), ()), ("fits", BROOK, (1,), 7, (None,)))
NONE = (
    ("cut", WELLS, 0), ("free", TIGHT), ("free", TIGHT, CROSS, 1), ("waits", TIGHT, CROSS, True), ("waits", TIGHT, CROSS, -1),
    ("saved", (9,), (), ((1, 0),)), ("saved", (), (), ()), ("steam", MILL, -1), ("again", NARROW, ((4, 0, 0),) * 2, ()),
    ("fits", BROOK, (), 1, LEAKS), ("fits", BROOK, ROW, 1, ()), ("fits", BROOK, ROW, 1, (("spring", 0, 1, 0),)),
    ("fits", BROOK, ROW, 1, (("valve", 3, 1, 0),)), ("home", CLIMB[:4]), ("home",), ("Free", TIGHT, CROSS), (), None, 7, "free",
    ("cut", ((1, 0, 2, 3, 1),), 1), ("cut", (), 1), ("rows", WELLS, 1), (("free",), TIGHT, CROSS), (None, TIGHT, CROSS),
    ("cut", WELLS[1:] + WELLS[:1], 1))


def are_waters_by_hand(thing):
    """Whether thing is WATERS for the level of their sump, from 2."""
    if type(thing) is not tuple or not thing or type(thing[0]) is not tuple or not thing[0] or not is_count(thing[0][0], 2):
        return False
    if thing[0][0] > 99:
        # A SHAFT that deep is too much to be written down; all else is told alike of one less deep.
        thing = ((99,) + thing[0][1:],) + thing[1:]
    deep = thing[0][0]
    return is_mine_by_hand(((deep, True, (0,) * (deep + 1)), thing, 1, None))


def is_claim_by_hand(thing):
    """Whether thing is a CLAIM, told by hand."""
    if type(thing) is not tuple or not thing or type(thing[0]) is not str:
        return False
    kind, parts = thing[0], thing[1:]
    sizes = {"free": 2, "waits": 3, "saved": 3, "cut": 2, "steam": 2, "again": 3, "fits": 4, "home": 1}
    if sizes.get(kind) != len(parts):
        return False
    if kind in ("free", "waits"):
        shaft, book = parts[:2]
        if type(shaft) is not tuple or len(shaft) != 3 or not is_count(shaft[0], 2) or shaft[0] > 99:
            return False
        waters = ((shaft[0], 0, 0, 1, 0),)
        if not is_mine_by_hand((shaft, waters, 1, None)) or kind == "waits" and not is_count(parts[2]):
            return False
        return is_run_by_hand((((shaft[0], True, (99,) * (shaft[0] + 1)), waters, 1, None), book, (), (), 0))
    if kind == "saved":
        lasts, bars, muster = parts
        if type(lasts) is not tuple or len(lasts) < 2:
            return False
        return is_lasts(lasts, len(lasts)) and are_bars(bars, len(lasts)) and is_muster(muster, len(lasts))
    if kind == "cut":
        return are_waters_by_hand(parts[0]) and is_count(parts[1], 1)
    if kind == "steam":
        return is_mine_by_hand(parts[0]) and is_count(parts[1])
    if kind == "again":
        return is_run_by_hand((*parts, (), 0))
    if kind == "home":
        return is_run_by_hand(parts[0])
    waters, row, most, leaks = parts
    if not are_waters_by_hand(waters) or not is_count(most):
        return False
    for own in (row, leaks):
        if type(own) is not tuple or not own:
            return False
    mine = ((2, True, (0,) * 3), waters, 1, None)
    return all([is_count(amount) for amount in row]) and all([
        leak is None or are_faults_by_hand(mine, (leak,)) and leak[0] == "valve" for leak in leaks])


def excesses_by_hand(waters):
    return [sum([own[2] for own in waters[:at + 1]]) - cistern[3] for at, cistern in enumerate(waters)]


def is_free_by_hand(shaft, book):
    return not clashes(book) and (shaft[1] or not meetings(book))


def all_waits(men, many):
    """All WAITS of so many men with a sum up to many."""
    return [waits for waits in itertools.product(range(many + 1), repeat=men) if sum(waits) <= many]


def is_so_by_hand(claim):
    """Whether claim is so, by own plays and by trying."""
    kind = claim[0]
    if kind == "free":
        return is_free_by_hand(*claim[1:])
    if kind == "waits":
        return any([is_pro_by_hand(claim, waits) for waits in all_waits(len(claim[2]), claim[3])])
    if kind == "saved":
        slots = range(1, 14)
        return any([is_saving(*claim[1:], own) for own in itertools.permutations(slots, len(claim[3]))])
    if kind == "cut":
        return max(excesses_by_hand(claim[1])) >= claim[2]
    if kind == "steam":
        return LonePlay(claim[1], claim[2]).missed == []
    if kind == "again":
        late, earlier = LongPlay(*claim[1:], 60).first_shown()
        rows = LongPlay(*claim[1:], late).rows
        return rows[late][2][0] == rows[earlier[0]][2][0]
    if kind == "fits":
        return any([is_fit_by_hand(claim, case) for case in all_cases(claim)])
    play = play_by_hand(claim[1])
    return play is not None and all([place == GRASS for place in play.men])


def all_cases(claim):
    _, waters, _, most, leaks = claim
    springs = list(itertools.product(range(most + 1), repeat=len(waters)))
    return [(own, place) for own in springs for place in range(len(leaks))]


def is_fit_by_hand(claim, case):
    _, waters, row, _, leaks = claim
    return leaky_play(with_springs(waters, case[0]), leaks[case[1]], len(row))[0] == row


def is_row(thing, size):
    return type(thing) is tuple and len(thing) == size and all([is_count(part) for part in thing])


def is_pro_by_hand(claim, thing):
    """Whether thing is a PAPER for a CLAIM that is so."""
    kind = claim[0]
    if kind == "free":
        return same(thing, ())
    if kind == "waits":
        if not is_row(thing, len(claim[2])) or sum(thing) > claim[3]:
            return False
        return is_free_by_hand(claim[1], [(a, b, ready + wait) for (a, b, ready), wait in zip(claim[2], thing)])
    if kind == "saved":
        return is_saving(*claim[1:], thing)
    if kind == "cut":
        return is_count(thing) and thing < len(claim[1]) and excesses_by_hand(claim[1])[thing] >= claim[2]
    if kind == "steam":
        return same(thing, tuple([row[2] for row in LonePlay(claim[1], claim[2]).rows[:claim[2]]]))
    if kind == "again":
        return is_round(*claim[1:], thing) and thing[2] == 0
    if kind == "fits":
        return any([same(thing, case) for case in all_cases(claim)]) and is_fit_by_hand(claim, thing)
    rows = play_by_hand(claim[1]).rows
    if not is_row(thing, len(claim[1][1])):
        return False
    return all([rests < len(rows) and {row[4][man] for row in rows[rests:]} == {GRASS} for man, rests in enumerate(thing)])


def is_con_by_hand(claim, thing):
    """Whether thing is a PAPER against a CLAIM that is not so."""
    kind = claim[0]
    if kind == "free":
        # By the first rests of the run, played by the words of [7] in test_dances; here by its clash or meeting.
        return same(thing, paper(claim)) or is_paper_against(claim, thing)
    if kind == "waits":
        return same(thing, ())
    if kind == "saved":
        return is_lot(*claim[1:], thing)
    if kind == "cut":
        if not is_row(thing, len(claim[1])):
            return False
        for at, cistern in enumerate(claim[1]):
            if thing[at] > cistern[3] or thing[at] > cistern[2] + (thing[at - 1] if at else 0):
                return False
        return thing[-1] > sum([cistern[2] for cistern in claim[1]]) - claim[2]
    if kind == "steam":
        if not is_row(thing, 2) or not thing[0] <= thing[1] < claim[2]:
            return False
        room, begin, stokes = claim[1][3]
        weights = LonePlay(claim[1], claim[2], True).weights[thing[0]:thing[1] + 1]
        stoked = sum([stokes[rest % len(stokes)] for rest in range(*thing)])
        return sum(weights) > (room if thing[0] else begin) + stoked
    if kind == "again":
        return is_round(*claim[1:], thing) and thing[2] > 0
    if kind == "fits":
        rests = [leaky_play(with_springs(claim[1], case[0]), claim[4][case[1]], len(claim[2]))[0] for case in all_cases(claim)]
        return same(thing, tuple([[one == two for one, two in zip(own, claim[2])].index(False) for own in rests]))
    play = play_by_hand(claim[1])
    if play is None:
        return same(thing, ())
    return is_count(thing) and thing < len(play.men) and play.men[thing] != GRASS


def random_claim(dice, kind):
    """A CLAIM of this kind, small enough to be told by hand."""
    if kind in ("free", "waits"):
        shaft = shaft_of(4, dice.random() < 0.3)
        book = random_book(dice, 4, dice.randint(1, 4), 1)
        return (kind, shaft, book) if kind == "free" else (kind, shaft, book, dice.randint(0, 2))
    if kind == "saved":
        deep = dice.randint(2, 4)
        lasts = tuple([dice.choice((None, 0, 1, 2, 3, 4)) for _ in range(deep)])
        bars = tuple(sorted({(dice.randrange(deep), dice.randint(0, 1), dice.randint(0, 4)) for _ in range(dice.randint(0, 2))}))
        return (kind, lasts, bars, tuple([(dice.randint(1, deep), dice.randint(0, 3)) for _ in range(dice.randint(0, 3))]))
    if kind == "cut":
        return (kind, random_frame(dice, 5), dice.randint(1, 4))
    if kind == "steam":
        return (kind, random_mine(dice), dice.randint(0, 15))
    if kind == "fits":
        waters, most = random_frame(dice), dice.randint(0, 2)
        leaks = tuple([random_leak(dice, waters) for _ in range(dice.randint(1, 2))])
        springs = [dice.randint(0, most) for _ in waters]
        row = list(leaky_play(with_springs(waters, springs), dice.choice(leaks), dice.randint(1, 9))[0])
        if dice.random() < 0.5:
            row[dice.randrange(len(row))] += 1
        return (kind, waters, tuple(row), most, leaks)
    if kind == "home":
        mine, book, faults, told, many = random_run(dice, 12, most=2, per=dice.choice((9, 30)))
        if dice.random() < 0.3:
            rest = dice.randint(0, many)
            ahead = [pair for pair in told if pair[0] <= rest]
            told = (*ahead, (rest, random_deed(dice, mine, book, faults)), *told[len(ahead):])
        return (kind, (mine, book, faults, told, many))
    while True:
        mine, book, faults, _, _ = random_run(dice, 0, most=2, last=4)
        if LongPlay(mine, book, faults, 60).first_shown() is not None:
            return (kind, mine, book, faults)


KINDS = ("free", "waits", "saved", "cut", "steam", "again", "fits", "home")


class Claims(unittest.TestCase):

    def test_claims(self):
        for claim in (*SO, *NOT_SO, *TOO_MUCH, ("home", LATE), ("again", PIT, ((2, 0, 0),), LATE[2])):
            self.assertIs(is_claim(claim), True, claim)
            self.assertIs(is_claim_by_hand(claim), True, claim)
            self.assertIs(is_claim(list(claim)), False)
            self.assertIs(is_claim(listed(claim)), False)
        for thing in (*NONE, *ODD_THINGS, deep_thing(100)):
            self.assertIs(is_claim(thing), False, thing)

    def test_spoilt_claims(self):
        good = {}
        for claim in (*SO, ("home", LATE), ("again", PIT, ((2, 0, 0),), LATE[2])):
            for thing in spoilt(claim):
                if claim[0] in ("free", "waits") and type(thing) is tuple and thing[1:2] and thing[1] == (10 ** 20,) + TIGHT[1:]:
                    expected = False
                else:
                    expected = is_claim_by_hand(thing)
                self.assertIs(is_claim(thing), expected, thing)
                good[claim[0]] = good.get(claim[0], 0) + expected
        self.assertEqual(sorted(good), sorted(KINDS))
        self.assertGreater(min(good.values()), 2)

    def test_whatever_the_bounds(self):
        book = ((3, 0, 10 ** 30),) * 90
        for claim in (
                ("free", TIGHT, book), ("waits", TIGHT, book, 10 ** 30), ("cut", WELLS, 10 ** 30), ("steam", MILL, 10 ** 30),
                ("fits", BROOK, (0,) * 90, 10 ** 30, (None,) * 90), ("saved", (10 ** 30,) * 50, (), ((50, 10 ** 30),) * 50),
                ("home", CLIMB[:4] + (10 ** 30,))):
            self.assertIs(is_claim(claim), True, claim[0])

    def test_unfit_before_all_else(self):
        for bad in NONE:
            for call, more in ((is_so, ()), (paper, ()), (is_paper_for, ((),)), (is_paper_against, ((),))):
                with self.assertRaises(Unfit):
                    call(bad, *more)
            for claims in ((bad,), (*TOO_MUCH, bad), (*NOT_SO, bad), (bad, *SO)):
                with self.assertRaises(Unfit):
                    first_false(claims)
                with self.assertRaises(Unfit):
                    verdicts(claims, ((),) * len(claims))
                with self.assertRaises(Unfit):
                    comes_of(SO[0], claims)
            with self.assertRaises(Unfit):
                comes_of(bad, SO)
            with self.assertRaises(Unfit):
                comes_of(bad, ())

    def test_too_much(self):
        for claim in TOO_MUCH:
            for call, more in (
                    (is_so, ()), (paper, ()), (is_paper_for, ((0, 0),)), (is_paper_for, (None,)), (is_paper_against, ((),)),
                    (is_paper_against, ([],))):
                with self.assertRaises(TooMuch):
                    call(claim, *more)
            for claims in ((claim,), (*SO, claim), (claim, NOT_SO[0])):
                with self.assertRaises(TooMuch):
                    verdicts(claims, (None,) * len(claims))
                with self.assertRaises(TooMuch):
                    first_false(claims)
                # Not as many: that is told first.
                for many in (0, len(claims) - 1, len(claims) + 1):
                    with self.assertRaises(Unfit):
                        verdicts(claims, (None,) * many)
            self.assertIs(comes_of(claim, TOO_MUCH), True)
            self.assertIs(comes_of(claim, SO), False)


class Papers(unittest.TestCase):

    def test_is_so(self):
        dice = dice_of("is so")
        for kind in KINDS:
            told = {True: 0, False: 0}
            for _ in range(60 if kind != "again" else 30):
                claim = random_claim(dice, kind)
                self.assertIs(is_claim(claim), True, claim)
                expected = is_so_by_hand(claim)
                self.assertIs(is_so(claim), expected, claim)
                told[expected] += 1
            self.assertGreater(min(told.values()), 2, kind)
        for claim in SO:
            self.assertIs(is_so(claim), True)
        for claim in NOT_SO:
            self.assertIs(is_so(claim), False)

    def test_papers(self):
        """What paper gives, that bent in one place, and what is one for other CLAIMS."""
        dice = dice_of("papers")
        others = [paper(claim) for claim in (*SO, *NOT_SO)]
        for kind in KINDS:
            for turn in range(14):
                claim = random_claim(dice, kind) if turn > 1 else (SO + NOT_SO)[KINDS.index(kind) + turn * len(KINDS)]
                so, own = is_so(claim), paper(claim)
                self.assertIs(is_paper_for(claim, own), so, (claim, own))
                self.assertIs(is_paper_against(claim, own), not so, (claim, own))
                for thing in (*spoilt(own), *others, *ODD_THINGS, deep_thing(100)):
                    pro = so and is_pro_by_hand(claim, thing)
                    con = not so and is_con_by_hand(claim, thing)
                    self.assertIs(is_paper_for(claim, thing), pro, (claim, thing))
                    self.assertIs(is_paper_against(claim, thing), con, (claim, thing))
                    word = "for" if pro else "against" if con else "none"
                    self.assertEqual(verdicts((claim,), (thing,)), [word])

    def test_bars(self):
        claim = NOT_SO[0]
        self.assertEqual([is_paper_against(claim, (man, 1 - man, 2)) for man in (0, 1)], [True, True])
        for thing in ((), (0, 1, 1), (0, 0, 2), (0, 1), (False, 1, 2), (0, 1, 3), [0, 1, 2]):
            self.assertIs(is_paper_against(claim, thing), False, thing)
        self.assertIs(is_paper_against(claim, (0, 1, 10 ** 9)), True)

    def test_no_paper_of_the_other_side(self):
        for claim in SO:
            for thing in ((), 0, (0, 1, 2), (2, 3, 4), (4, 9), (2, 2, 2), *[paper(other) for other in NOT_SO]):
                self.assertIs(is_paper_against(claim, thing), False)
        for claim in NOT_SO:
            for thing in ((), 0, 2, (0, 1), (4, 9, 10), (2, 2, 0), *[paper(other) for other in SO]):
                self.assertIs(is_paper_for(claim, thing), False)

    def test_rounds_of_all_kinds(self):
        lead, length, growth = round_of(*NOT_SO[5][1:])
        for times in (1, 2, 10 ** 12):
            self.assertIs(is_paper_against(NOT_SO[5], (lead + times, length * times, growth * times)), True)
            self.assertIs(is_paper_against(NOT_SO[5], (lead + times, length * times, 0)), False)
            self.assertIs(is_paper_for(SO[5], (10, 2 * times, 0)), True)

    def test_flows(self):
        # Springs are 5: more than 5 less 2 has to come out.
        claim = ("cut", WELLS, 2)
        for thing, yes in (
                ((2, 3, 4), True), ((2, 2, 4), True), ((2, 3, 3), False), ((2, 3, 5), False), ((3, 3, 4), False), ((2, 4, 4), False),
                ((1, 2, 4), True), ((1, 1, 4), False), ((1, 1, 3), False), ((2, 3, 4, 4), False), ((2, 3), False), ([2, 3, 4], False),
                ((2, True, 4), False), ((2, -1, 4), False), ((0, 0, 0), False)):
            self.assertIs(is_paper_against(claim, thing), yes, thing)
        self.assertIs(is_paper_for(("cut", WELLS, 1), 2), True)
        for thing in (0, 1, 3, -1, True, (2,), None):
            self.assertIs(is_paper_for(("cut", WELLS, 1), thing), False, thing)

    def test_steam(self):
        free = MILL[:3] + (None,)
        self.assertEqual(paper(("steam", free, 4)), (0,) * 4)
        self.assertEqual(paper(("steam", free, 0)), ())
        self.assertIs(is_paper_for(("steam", free, 2), (0, False)), False)
        self.assertIs(is_so(("steam", free, 1000)), True)
        self.assertEqual(paper(("steam", MILL, 3)), (4, 9, 10))
        self.assertEqual(paper(("steam", MILL, 10)), (4, 9))

    def test_home(self):
        claim = ("home", CLIMB)
        for thing, yes in (((3,), True), ((6,), True), ((2,), False), ((7,), False), (3, False), ((), False), ((3, 3), False)):
            self.assertIs(is_paper_for(claim, thing), yes, thing)
        # He is at the grass at first, then below, and home again.
        again = ("home", (PIT, ((0, 1, 0),), (), ((2, ("bell",)),), 6))
        self.assertEqual(paper(again), (4,))
        for rests in range(8):
            self.assertIs(is_paper_for(again, (rests,)), 4 <= rests <= 6, rests)
        stuck = ("home", (PIT, ((2, 0, 0),), (), ((5, ("stoke", 1)),), 6))
        self.assertEqual((is_so(stuck), paper(stuck)), (False, ()))
        for thing in (0, (3,), None, [], (0,)):
            self.assertIs(is_paper_against(stuck, thing), False)
        self.assertIs(is_so(("home", stuck[1][:4] + (5,))), True)
        self.assertEqual([is_paper_against(("home", DIG), thing) for thing in (0, 1, -1, False, ())], [True] + [False] * 4)
        one_of_two = ("home", (PIT, ((2, 0, 0), (1, 3, 0), (3, 0, 9)), (), (), 6))
        self.assertEqual([is_paper_against(one_of_two, man) for man in range(4)], [False, True, True, False])
        empty = ("home", (PIT, (), (), (), 0))
        self.assertEqual((is_so(empty), paper(empty), is_paper_for(empty, ())), (True, (), True))
        self.assertIs(is_paper_against(empty, ()), False)


class Verdicts(unittest.TestCase):

    def test_many_at_once(self):
        claims = SO + NOT_SO
        papers = [paper(claim) for claim in claims]
        self.assertEqual(verdicts(claims, papers), ["for"] * 8 + ["against"] * 8)
        # In another order most are none, one of the same kind may be one.
        turned = papers[1:] + papers[:1]
        own = ["for" if is_paper_for(one, two) else "against" if is_paper_against(one, two) else "none"
               for one, two in zip(claims, turned)]
        self.assertEqual(verdicts(claims, turned), own)
        self.assertIn("none", own)
        self.assertEqual(verdicts((), ()), [])
        self.assertEqual(verdicts([], []), [])

    def test_things_stay_as_they_are(self):
        self.assertEqual(verdicts([listed(SO[1])] * 3, [(0, 1), [0, 1], (0, True)]), ["for", "none", "none"])
        for claims, things in (((), (1,)), (SO, ()), (SO, (1,) * 9)):
            with self.assertRaises(Unfit):
                verdicts(claims, things)


class Comes(unittest.TestCase):

    def check(self, claim, other, yes):
        self.assertIs(comes_of(claim, (other,)), yes, (claim, other))
        self.assertIs(comes_of(claim, (SO[5], other, SO[4])), yes)

    def test_itself(self):
        for claim in SO + NOT_SO + TOO_MUCH:
            self.check(claim, claim, True)
            self.assertIs(comes_of(claim, ()), False)
            for other in SO + NOT_SO:
                if other[0] != claim[0] and (claim[0], other[0]) != ("waits", "free"):
                    self.assertIs(comes_of(claim, (other, other)), False)

    def test_free_and_waits(self):
        book = ((4, 0, 0), (0, 4, 1), (3, 1, 2), (0, 4, 1))
        for many in range(5):
            for left in itertools.combinations(range(4), many):
                part = tuple([book[man] for man in left])
                self.check(("free", TIGHT, part), ("free", TIGHT, book), True)
                self.check(("free", TIGHT, book), ("free", TIGHT, part), part == book)
                for more in (0, 3, 10 ** 9):
                    self.check(("waits", TIGHT, part, more), ("free", TIGHT, book), True)
                    self.check(("waits", TIGHT, part, more), ("waits", TIGHT, book, 3), more >= 3)
                    self.check(("free", TIGHT, part), ("waits", TIGHT, book, more), False)
        for other in (book[::-1], book + book[:1], book[:1] * 2, ((4, 0, 1),), ((4, 1, 0),)):
            self.check(("free", TIGHT, other), ("free", TIGHT, book), False)
            self.check(("waits", TIGHT, other, 9), ("waits", TIGHT, book, 3), False)
        wide = (4, True) + TIGHT[2:]
        self.check(("free", wide, book), ("free", TIGHT, book), False)
        self.check(("waits", TIGHT[:2] + ((9,) * 5,), book, 9), ("waits", TIGHT, book, 3), False)

    def test_counts(self):
        for less in range(1, 6):
            self.check(("cut", WELLS, less), ("cut", WELLS, 3), less <= 3)
            self.check(("cut", WELLS[:2], less), ("cut", WELLS, 3), False)
            self.check(("steam", MILL, less), ("steam", MILL, 3), less <= 3)
            self.check(("steam", MILL[:3] + (None,), less), ("steam", MILL, 3), False)
        self.check(("steam", MILL, 0), ("steam", MILL, 3), True)

    def test_saved_by_single_steps(self):
        """All that comes of a MUSTER by leaving out a man, or by taking one a level, or a made, down."""
        lasts, bars = (9, 5), ((0, 0, 4),)
        whole = ((2, 1), (1, 2), (2, 0))
        found, new = {whole}, [whole]
        while new:
            muster = new.pop()
            for at, (level, ready) in enumerate(muster):
                for other in ((), ((level - 1, ready),), ((level, ready - 1),)):
                    own = muster[:at] + other + muster[at + 1:]
                    if own not in found and all([part[0] >= 1 and part[1] >= 0 for part in own]):
                        found.add(own)
                        new.append(own)
        men = list(itertools.product((1, 2), range(4)))
        for many in range(4):
            for muster in itertools.product(men, repeat=many):
                self.assertIs(comes_of(("saved", lasts, bars, muster), (("saved", lasts, bars, whole),)), muster in found, muster)
        self.check(("saved", lasts, (), whole), ("saved", lasts, bars, whole), False)
        self.check(("saved", (9, None), bars, whole), ("saved", lasts, bars, whole), False)
        self.check(("saved", lasts, bars, whole * 2), ("saved", lasts, bars, whole), False)

    def test_fits(self):
        whole = ("fits", BROOK, ROW, 1, LEAKS)
        more = (LEAKS[1], ("valve", 1, 1, 1), None, ("valve", 1, 1, 1))
        for many in range(1, 7):
            for most in (0, 1, 2, 10 ** 9):
                for leaks, has in ((LEAKS, True), (LEAKS[::-1], True), (more, True), (LEAKS * 2, True), (LEAKS[:1], False), (more[:2], False)):
                    self.check(("fits", BROOK, ROW[:many], most, leaks), whole, most >= 1 and has)
        self.check(("fits", BROOK, ROW + (0,), 1, LEAKS), whole, False)
        self.check(("fits", BROOK, (1,), 1, LEAKS), whole, False)
        self.check(("fits", BROOK[:2], ROW, 1, LEAKS), whole, False)
        self.check(("fits", BROOK, ROW, 1, LEAKS[:1]), ("fits", BROOK, ROW, 1, LEAKS[:1] * 2), True)

    def test_no_rule(self):
        self.check(("again", NARROW, CROSS[:1], ()), ("again", NARROW, CROSS, ()), False)
        self.check(("home", CLIMB), ("home", CLIMB[:4] + (7,)), False)
        self.check(("home", CLIMB[:4] + (7,)), ("home", CLIMB), False)

    def test_what_comes_of_so_is_so(self):
        dice = dice_of("sound")
        hit = 0
        for kind in ("free", "waits", "saved", "cut", "steam", "fits"):
            for _ in range(40):
                claim = random_claim(dice, kind)
                if not is_so(claim):
                    continue
                less = self.lessened(dice, claim)
                self.assertIs(comes_of(less, (claim,)), True, (less, claim))
                self.assertIs(is_so(less), True, (less, claim))
                hit += 1
        self.assertGreater(hit, 80)

    def lessened(self, dice, claim):
        """What comes of claim by the rules."""
        kind = claim[0]
        if kind in ("free", "waits"):
            book = tuple([ride for ride in claim[2] if dice.random() < 0.7])
            more = dice.randint(0, 3) + (claim[3] if kind == "waits" else 0)
            return ("waits", claim[1], book, more) if kind == "waits" or dice.random() < 0.5 else ("free", claim[1], book)
        if kind == "saved":
            men = [man for man in claim[3] if dice.random() < 0.7]
            return claim[:3] + (tuple([(dice.randint(1, level), dice.randint(0, ready)) for level, ready in men]),)
        if kind in ("cut", "steam"):
            return claim[:2] + (dice.randint(1, claim[2]) if claim[2] else 0,)
        row = claim[2][:dice.randint(1, len(claim[2]))]
        return claim[:2] + (row, claim[3] + dice.randint(0, 1), (("valve", 0, 1, 0),) + claim[4][::-1])


class FirstFalse(unittest.TestCase):

    def test_first_false(self):
        for claims, place in (
                ((), None), (SO, None), (SO + NOT_SO, 8), (NOT_SO, 0), (SO[:3] + NOT_SO[:1] + SO, 3), ((NOT_SO[1],) + TOO_MUCH, 0),
                (SO[:2] + (NOT_SO[7],) + TOO_MUCH, 2)):
            self.assertTrue(same(first_false(claims), place))
            self.assertTrue(same(first_false(listed(claims)), place))
        with self.assertRaises(TooMuch):
            first_false(SO + TOO_MUCH + NOT_SO)


class Manners(unittest.TestCase):

    def test_manners(self):
        for claim in (*SO, *NOT_SO, *TOO_MUCH, NONE[0], NONE[3]):
            check_manners(self, is_claim, {"thing": claim}, ("thing",))
            check_manners(self, is_so, {"claim": claim})
            check_manners(self, paper, {"claim": claim})
            own = outcome(paper, claim)[1]
            for call in (is_paper_for, is_paper_against):
                check_manners(self, call, {"claim": claim, "thing": own}, ("thing",))
            check_manners(self, verdicts, {"claims": (claim,), "things": (own,)}, ("things",))
            check_manners(self, comes_of, {"claim": claim, "claims": SO})
            check_manners(self, first_false, {"claims": SO + (claim,)})
        self.assertIs(is_fit(*SO[6][1:], paper(SO[6])), True)
        self.assertIs(is_refusal(*NOT_SO[6][1:], paper(NOT_SO[6])), True)


if __name__ == "__main__":
    unittest.main()
