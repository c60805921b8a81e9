"""[19]: broken platforms."""

import itertools
import unittest

from helpers import ODD_THINGS, all_rides, check_manners, deep_thing, dice_of, listed, outcome, same, shaft_of, spoilt
from manrods.bells import all_saved, are_bars, leads, most_saved
from manrods.broken import (
    are_breaks, are_climbs, bars_of, climbs, first_barred, is_climb, least_mends, most_up, up_at, worst_platforms)
from manrods.errors import CanNot, Unfit
from manrods.shafts import faced_level, platforms

QUICK, BREAKS = (None, None, 0), (((0, 1), 0),)
FAR = 40


def all_platforms(deep):
    return platforms(shaft_of(deep, True))


def random_breaks(dice, deep, most, last):
    chosen = sorted(dice.sample(all_platforms(deep), min(2 * deep, dice.randint(0, most))))
    return tuple([(platform, dice.randint(0, last)) for platform in chosen])


def played(shaft, breaks, ride, board):
    """first_barred by going stroke by stroke, platform by platform."""
    since_of = dict(breaks)
    start, to, _ = ride
    way = 1 if to > start else -1
    level, made, on = start, board, None
    while True:
        if on is not None and since_of.get(on, 10 ** 30) <= made:
            return (made, level, True)
        if level == to:
            return None
        # The one that faces his level and goes his way at the next stroke.
        want = [platform for platform in platforms(shaft) if faced_level(platform, made) == level
                and faced_level(platform, made + 1) == level + way]
        assert len(want) == 1
        if since_of.get(want[0], 10 ** 30) <= made:
            return (made, level, False)
        on = want[0]
        level += way
        made += 1


def random_lasts(dice, deep, last):
    return tuple([None if dice.random() < 0.2 else dice.randint(-1, last) for _ in range(deep)])


def random_case(dice, men, deep=None, last=7):
    deep = deep or dice.randint(2, 4)
    breaks = random_breaks(dice, deep, 2, last)
    asides = tuple([level for level in range(1, deep + 1) if dice.random() < 0.6])
    muster = tuple([(dice.randint(1, deep), dice.randint(0, 3)) for _ in range(dice.randint(0, men))])
    return random_lasts(dice, deep, last), bars_of(breaks), asides, muster


def all_climbs(lasts, bars, asides, man, last):
    """All CLIMBS of one man with slots to last."""
    level, ready = man
    found = []

    def climb(way, at, slot):
        for end in [0, *[own for own in asides if own < at]]:
            for own in range(slot, last + 1):
                if leads(lasts, bars, at, end, own):
                    if end == 0:
                        found.append((*way, (at, own)))
                    else:
                        climb((*way, (at, own)), end, own)
    climb((), level, ready + level)
    return found


def strides_of(climb):
    ends = [level for level, _ in climb[1:]] + [0]
    return [(stride, slot) for (level, slot), end in zip(climb, ends) for stride in range(end, level)]


def most_by_all(rows, used=()):
    """How many at the most have one CLIMB out of their rows, no stride and slot used twice."""
    if not rows:
        return 0
    best = most_by_all(rows[1:], used)
    for strides in rows[0]:
        if best == len(rows):
            break
        if not any([stride in used for stride in strides]):
            best = max(best, 1 + most_by_all(rows[1:], (*used, *strides)))
    return best


class Breaks(unittest.TestCase):

    def test_breaks(self):
        for breaks in ((), BREAKS, (((0, 0), 10 ** 30), ((0, 2), 0), ((1, 1), 5), ((1, 3), 5))):
            self.assertIs(are_breaks(breaks, 3), True)
            self.assertIs(are_breaks(list(breaks), 3), False)
        bad = [(((0, 3), 0),), (((1, 0), 0),), (((1, 4), 0),), (((0, -1), 0),), (((2, 1), 0),), (((0, 1), -1),), (((0, 1), True),),
               (((0, True), 0),), (((False, 1), 0),), (((0, 1), 0), ((0, 1), 1)), (((0, 1), 0), ((0, 1), 0)), (((0, 1), 0), ((0, 0), 5)),
               (([0, 1], 0),), ([(0, 1), 0],), (((0, 1),),), (((0, 1), 0, 0),), ((0, 1), 0), (((0, 1), None),), None, deep_thing(100)]
        for thing in [*bad, *[thing for thing in ODD_THINGS if not same(thing, ())]]:
            self.assertIs(are_breaks(thing, 3), False, thing)
        self.assertIs(are_breaks((((0, 3), 0),), 4), True)

    def test_spoilt_breaks(self):
        found = 0
        for thing in spoilt((((0, 1), 2), ((1, 1), 0))):
            good = type(thing) is tuple and all([type(part) is tuple and len(part) == 2 for part in thing])
            good = good and all([part[0] in all_platforms(3) and type(part[0]) is tuple for part in thing])
            good = good and all([type(number) is int for part in thing for number in (*part[0], part[1])])
            good = good and all([part[1] >= 0 for part in thing])
            good = good and [part[0] for part in thing] == sorted({part[0] for part in thing})
            self.assertIs(are_breaks(thing, 3), good, thing)
            found += good
        self.assertGreater(found, 3)

    def test_bars_of(self):
        self.assertTrue(same(bars_of(()), ()))
        for platform, stride, colour in (((0, 0), 0, 0), ((0, 3), 3, 1), ((1, 1), 0, 1), ((1, 4), 3, 0)):
            for since, from_made in ((0, 0), (1, 0), (2, 1), (10 ** 6, 10 ** 6 - 1)):
                self.assertTrue(same(bars_of(((platform, since),)), ((stride, colour, from_made),)))
        dice = dice_of("bars of")
        for _ in range(50):
            breaks = random_breaks(dice, 6, 12, 9)
            bars = bars_of(breaks)
            self.assertIs(are_bars(bars, 6), True)
            self.assertEqual(len(bars), len(breaks))

    def test_first_barred(self):
        dice = dice_of("first barred")
        kinds = {}
        for deep in (2, 3, 5):
            rides = all_rides(deep, (0, 7))
            for _ in range(600):
                breaks, ride, board = random_breaks(dice, deep, 5, 12), dice.choice(rides), dice.randint(0, 9)
                shaft = shaft_of(deep, dice.random() < 0.5)
                expected = played(shaft, breaks, ride, board)
                self.assertTrue(same(first_barred(shaft, breaks, ride, board), expected), (breaks, ride, board))
                kind = None if expected is None else (expected[2], expected[1] == ride[1], expected[0] == board)
                kinds[kind] = kinds.get(kind, 0) + 1
        # Lost on the way and at the end; held up at boarding and at crossing.
        for kind in (None, (True, False, False), (True, True, False), (False, False, True), (False, False, False)):
            self.assertGreater(kinds.get(kind, 0), 20, kinds)

    def test_when_it_breaks(self):
        # From level 3 at made 0 he stands on (1, 3) to made 1, on (0, 1) to made 2, on (1, 1) to made 3.
        shaft, ride = shaft_of(3, True), (3, 0, 99)
        for since, expected in ((0, (1, 2, False)), (1, (1, 2, False)), (2, (2, 1, True)), (3, None)):
            self.assertEqual(first_barred(shaft, (((0, 1), since),), ride, 0), expected)
        for since, expected in ((0, (0, 3, False)), (1, (1, 2, True)), (2, None)):
            self.assertEqual(first_barred(shaft, (((1, 3), since),), ride, 0), expected)
        for since, expected in ((2, (2, 1, False)), (3, (3, 0, True)), (4, None)):
            self.assertEqual(first_barred(shaft, (((1, 1), since),), ride, 0), expected)
        far = 10 ** 12
        self.assertEqual(first_barred(shaft, (((0, 1), far + 2),), ride, far), (far + 2, 1, True))

    def test_bars_hold_risers(self):
        # Who rises and is barred or lost nowhere makes no stride that BARS bar, and the other way about.
        dice = dice_of("bars hold")
        for _ in range(400):
            deep = dice.randint(2, 5)
            breaks, level = random_breaks(dice, deep, 4, 9), dice.randint(1, deep)
            slot = dice.randint(level, level + 9)
            free = first_barred(shaft_of(deep, True), breaks, (level, 0, 0), slot - level) is None
            self.assertIs(leads((None,) * deep, bars_of(breaks), level, 0, slot), free)


class Climbs(unittest.TestCase):

    def test_up_at(self):
        dice = dice_of("up at")
        kinds = {True: 0, False: 0}
        longer = 0
        for _ in range(800):
            lasts, bars, asides, _ = random_case(dice, 0, 4)
            bars = bars_of(random_breaks(dice, 4, 5, 3))
            man = (dice.randint(1, len(lasts)), dice.randint(0, 3))
            found = all_climbs(lasts, bars, asides, man, 16)
            least = min([climb[-1][1] for climb in found], default=None)
            self.assertTrue(same(up_at(lasts, bars, asides, man), least), (lasts, bars, asides, man))
            kinds[least is None] += 1
            longer += least is not None and up_at(lasts, bars, (), man) != least
            for climb in dice.sample(found, min(5, len(found))):
                self.assertIs(is_climb(lasts, bars, asides, man, climb), True)
        self.assertGreater(min(kinds.values()), 50)
        self.assertGreater(longer, 5)

    def test_climbs_by_all(self):
        dice = dice_of("climbs by all")
        count = 0
        for _ in range(60):
            lasts, bars, asides, _ = random_case(dice, 0, 3, 5)
            man = (dice.randint(1, 3), dice.randint(0, 2))
            good = all_climbs(lasts, bars, asides, man, 6)
            pairs = list(itertools.product(range(4), range(7)))
            things = [(), *itertools.product(pairs), *itertools.product(pairs, pairs)]
            for thing in things:
                self.assertIs(is_climb(lasts, bars, asides, man, thing), thing in good, (lasts, bars, asides, man, thing))
                count += thing in good
        self.assertGreater(count, 100)

    def test_things_that_are_no_climb(self):
        bars = bars_of(BREAKS)
        self.assertIs(is_climb(QUICK, bars, (2,), (3, 0), ((3, 3), (2, 4))), True)
        for thing in [*spoilt(((3, 3), (2, 4))), *ODD_THINGS, deep_thing(100), ((3, 3),), ((2, 4),), ((3, 3), (2, 3)), ((3, 3), (1, 4)),
                      ((2, 4), (3, 3)), ((3, 3), (2, 4), (2, 4)), ((3, 3), (2, 4), (0, 5)), ((3, 4), (2, 4)), ((3, 3), (2, 2))]:
            good = type(thing) is tuple and thing in (((3, 3), (2, 4)), ((3, 3), (2, 10 ** 20)))
            good = good and all([type(part) is tuple and type(part[0]) is type(part[1]) is int for part in thing])
            self.assertIs(is_climb(QUICK, bars, (2,), (3, 0), thing), good, thing)
        self.assertIs(is_climb(QUICK, bars, (), (3, 0), ((3, 3), (2, 4))), False)
        self.assertIs(is_climb((None, None), (), (), (1, 5), ((1, 5),)), False)
        self.assertIs(is_climb((None, None), (), (), (1, 5), ((1, 6),)), True)
        self.assertIs(is_climb((None, None), (), (), (1, 0), ((True, 1),)), False)
        self.assertIs(is_climb((None, None), (), (), (1, 0), ((1, True),)), False)
        # His own level need not be in asides.
        self.assertIs(is_climb((None, None), (), (1,), (2, 0), ((2, 2), (1, 2))), True)

    def test_most_up(self):
        dice = dice_of("most up")
        kinds = {}
        for _ in range(250):
            lasts, bars, asides, muster = random_case(dice, 3, dice.choice((2, 3)), 5)
            asides = tuple(sorted({*asides, *[level for level, _ in muster]}))
            rows = [[strides_of(climb) for climb in all_climbs(lasts, bars, asides, man, 8)][:60] for man in muster]
            found = climbs(lasts, bars, asides, muster)
            self.assertIs(are_climbs(lasts, bars, asides, muster, found), True, (lasts, bars, asides, muster))
            up = len(muster) - found.count(None)
            self.assertEqual(most_up(lasts, bars, asides, muster), up)
            if all([len(row) < 60 for row in rows]):
                self.assertEqual(most_by_all(rows), up, (lasts, bars, asides, muster))
                kinds[(up, len(muster))] = kinds.get((up, len(muster)), 0) + 1
            self.assertGreaterEqual(up, most_saved(lasts, bars, muster))
            if not bars:
                self.assertEqual(up, most_saved(lasts, bars, muster))
        for kind in ((1, 1), (2, 3), (3, 3), (0, 1), (1, 2)):
            self.assertGreater(kinds.get(kind, 0), 3, kinds)

    def test_more_come_up_by_stepping_aside(self):
        self.assertEqual(most_saved(QUICK, bars_of(BREAKS), ((3, 0), (2, 0), (2, 0))), 2)
        self.assertEqual(most_up(QUICK, bars_of(BREAKS), (2, 3), ((3, 0), (2, 0), (2, 0))), 3)

    def test_unfit(self):
        for asides, muster in (((2,), ((1, 0),)), ((), ((1, 0),)), ((1, 3), ((1, 0), (2, 0), (3, 0)))):
            for call in (most_up, climbs):
                with self.assertRaises(Unfit):
                    call((9, 9, 9), (), asides, muster)
            self.assertIs(are_climbs((9, 9, 9), (), asides, muster, (None,) * len(muster)), True)
        self.assertEqual((most_up((9, 9), (), (), ()), climbs((9, 9), (), (1,), ())), (0, ()))

    def test_are_climbs(self):
        lasts, muster = (None, None, None), ((3, 0), (2, 0), (2, 0))
        good = [(None, None, None), (((3, 3),), None, None), (((3, 3),), ((2, 2),), ((2, 4),)), (((3, 3), (2, 5)), ((2, 2),), ((2, 4),)),
                (((3, 3), (2, 5)), ((2, 3),), ((2, 4),))]
        for thing in good:
            self.assertIs(are_climbs(lasts, (), (2,), muster, thing), True, thing)
            self.assertIs(are_climbs(listed(lasts), (), [2], listed(muster), thing), True)
            self.assertIs(are_climbs(lasts, (), (2,), muster, list(thing)), False)
        bad = [(((3, 3),), ((2, 3),), None), (((3, 3), (2, 4)), ((2, 4),), None), (None, ((2, 2),), ((2, 2),)), (((2, 2),), None, None),
               (((3, 3), (1, 4)), None, None), (None, None), (None, None, None, None), (), None, ((), None, None), (((3, 2),), None, None),
               (True, None, None), (((3, 3),), ((2, True),), None), (0, None, None), ([(3, 3)], None, None)]
        for thing in [*bad, *ODD_THINGS, deep_thing(100)]:
            self.assertIs(are_climbs(lasts, (), (2,), muster, thing), False, thing)

    def test_forty_men(self):
        dice = dice_of("forty")
        asides = tuple(range(1, 41))
        for _ in range(5):
            muster = tuple([(dice.randint(1, 40), dice.randint(0, 50)) for _ in range(40)])
            lasts = tuple([dice.randint(0, 60) + 40 - at for at in range(40)])
            bars = bars_of(random_breaks(dice, 40, 20, 60))
            found = climbs(lasts, bars, asides, muster)
            self.assertIs(are_climbs(lasts, bars, asides, muster, found), True)
            self.assertGreaterEqual(most_up(lasts, bars, asides, muster), most_saved(lasts, bars, muster))


class Mending(unittest.TestCase):

    def test_worst_platforms(self):
        dice = dice_of("worst")
        kinds = {}
        for _ in range(150):
            deep = dice.randint(2, 5)
            lasts, breaks, since = random_lasts(dice, deep, 8), random_breaks(dice, deep, 3, 8), dice.randint(0, 6)
            muster = tuple([(dice.randint(1, deep), dice.randint(0, 2)) for _ in range(dice.randint(0, 6))])
            before = most_saved(lasts, bars_of(breaks), muster)
            fewer = {}
            for platform in all_platforms(deep):
                if platform not in dict(breaks):
                    left = tuple(sorted([*breaks, (platform, since)]))
                    fewer[platform] = before - most_saved(lasts, bars_of(left), muster)
            many = max(fewer.values())
            expected = (many, tuple(sorted([platform for platform in fewer if fewer[platform] == many])))
            self.assertTrue(same(worst_platforms(lasts, breaks, muster, since), expected))
            kinds[many] = kinds.get(many, 0) + 1
        self.assertGreater(len(kinds), 3)

    def test_all_are_broken(self):
        for since in (0, 50):
            breaks = tuple([(platform, 9) for platform in all_platforms(2)])
            self.assertTrue(same(worst_platforms((None, None), breaks, ((1, 0),), since), (0, ())))
            self.assertTrue(same(worst_platforms((None, None), breaks[:-1], ((2, 0),), 0)[1], ((1, 2),)))
        self.assertEqual(worst_platforms((None, None), (), (), 0), (0, all_platforms(2)))

    def test_least_mends(self):
        dice = dice_of("mends")
        kinds = {}
        for _ in range(250):
            deep = dice.randint(2, 5)
            lasts, breaks = random_lasts(dice, deep, 9), random_breaks(dice, deep, 5, 4)
            muster = tuple([(dice.randint(1, deep), dice.randint(0, 2)) for _ in range(dice.randint(1, 5))])
            good = []
            for many in range(len(breaks) + 1):
                for mends in itertools.combinations(breaks, many):
                    left = tuple([part for part in breaks if part not in mends])
                    if all_saved(lasts, bars_of(left), muster):
                        good.append(mends)
            found = outcome(least_mends, lasts, breaks, muster)
            if not good:
                self.assertEqual(found[:2], ("error", "CanNot"))
                kinds["CanNot"] = kinds.get("CanNot", 0) + 1
                continue
            least = [mends for mends in good if len(mends) == len(good[0])]
            self.assertTrue(same(found, ("value", sorted(least))), (lasts, breaks, muster))
            kinds[len(least[0])] = kinds.get(len(least[0]), 0) + 1
        for kind in ("CanNot", 0, 1, 2):
            self.assertGreater(kinds.get(kind, 0), 5, kinds)

    def test_edges(self):
        self.assertEqual(least_mends((9, 9), (), ()), [()])
        self.assertEqual(least_mends((9, 9), BREAKS, ()), [()])
        with self.assertRaises(CanNot):
            least_mends((-1, -1), BREAKS, ((1, 0),))
        eight = tuple([(platform, 0) for platform in all_platforms(12)[::3]])
        found = least_mends((12,) * 12, eight, tuple([(level, 0) for level in range(1, 13)]))
        self.assertEqual(found, least_mends((12,) * 12, listed(eight), tuple([(level, 0) for level in range(1, 13)])))


class Manners(unittest.TestCase):

    def test_manners(self):
        shaft, lasts, bars = shaft_of(3, True), QUICK, bars_of(BREAKS)
        check_manners(self, are_breaks, {"thing": BREAKS, "deep": 3}, ("thing",))
        check_manners(self, bars_of, {"breaks": BREAKS})
        for board in (0, 1):
            check_manners(self, first_barred, {"shaft": shaft, "breaks": BREAKS, "ride": (3, 0, 0), "board": board})
        told = {"lasts": lasts, "bars": bars, "asides": (2, 3)}
        check_manners(self, up_at, {**told, "man": (3, 0)})
        check_manners(self, is_climb, {**told, "man": (3, 0), "thing": ((3, 3), (2, 4))}, ("thing",))
        for muster in (((3, 0), (2, 0), (2, 0)), ((1, 0),)):
            check_manners(self, most_up, {**told, "muster": muster})
            check_manners(self, climbs, {**told, "muster": muster})
            check_manners(self, are_climbs, {**told, "muster": muster, "thing": (None, None, ((2, 2),))}, ("thing",))
        check_manners(self, worst_platforms, {"lasts": (4, 1, 0), "breaks": BREAKS, "muster": ((3, 0), (2, 0)), "since": 0})
        for lasts in ((9, 9, 0), (-1, -1, -1)):
            check_manners(self, least_mends, {"lasts": lasts, "breaks": (((0, 0), 0), ((0, 1), 0)), "muster": ((3, 0),)})


if __name__ == "__main__":
    unittest.main()
