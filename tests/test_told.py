"""[24]: what the adit tells."""

import itertools
import unittest

from helpers import ODD_THINGS, WaterPlay, check_manners, deep_thing, dice_of, listed, plain_rows, random_waters, same, shaft_of, spoilt
from manrods.errors import CanNot, NoPlace, TooMuch, Unfit
from manrods.faults import dent_of, is_calm
from manrods.told import (
    best_gauge, fits, frames_alike, is_easy, is_fit, is_refusal, leaky_held, leaky_row, parting_gauge, refusal, sums_told)
from manrods.waters import way_out

BROOK = ((5, 0, 2, 9, 1), (3, 9, 1, 9, 0), (1, 9, 3, 9, 0))
LEAKS = (("valve", 0, 2, 4), ("valve", 1, 2, 5), ("valve", 2, 2, 7))


def with_springs(waters, springs):
    return tuple([cistern[:2] + (spring,) + cistern[3:] for cistern, spring in zip(waters, springs)])


def is_easy_by_hand(waters):
    for at, (_, room, _, measure, _) in enumerate(waters):
        springs = sum([own[2] for own in waters[:at + 1]])
        if springs > measure or at > 0 and springs > room:
            return False
    return True


def leaky_play(waters, leak, many):
    """The row and HELD behind each rest, by play."""
    play, row, rows = WaterPlay(waters, [0] * len(waters)), [], [(0,) * len(waters)]
    for rest in range(many):
        ahead, leaks = play.out, [0] * len(waters)
        if leak is not None and rest >= leak[3]:
            leaks[leak[1]] = leak[2]
        play.rest(rest, rest, True, (), leaks)
        row.append(play.out - ahead)
        rows.append(tuple(play.held))
    return tuple(row), rows


def lots_by_hand(waters):
    """The list of (way_out, LOT), by way_out."""
    ways = [way_out(waters, number) for number in range(len(waters))]
    return [(rest, tuple([at for at, own in enumerate(ways) if own == rest])) for rest in sorted(set(ways))]


def random_frame(dice, last=3):
    """WATERS of few CISTERNS, rooms and measures often small."""
    deep = dice.randint(2, 5)
    waters = random_waters(dice, deep, dice.randint(1, 3), last)
    return tuple([cistern[:3] + (dice.randint(1, 4), cistern[4]) for cistern in waters])


def easy_frame(dice):
    """WATERS that are easy with springs up to 2."""
    return tuple([cistern[:1] + (9, dice.randint(0, 2), 9, cistern[4]) for cistern in random_waters(dice, 5, 4, 1)])


def random_leak(dice, waters):
    if dice.random() < 0.25:
        return None
    return ("valve", dice.randrange(len(waters)), dice.randint(1, 3), dice.randint(0, 8))


class Rows(unittest.TestCase):

    def test_is_easy(self):
        dice = dice_of("easy")
        kinds = {True: 0, False: 0}
        for _ in range(600):
            waters = random_frame(dice)
            self.assertIs(is_easy(waters), is_easy_by_hand(waters))
            kinds[is_easy(waters)] += 1
        self.assertGreater(min(kinds.values()), 60)
        for room, measure, low, easy in ((3, 3, 2, True), (2, 3, 2, False), (3, 2, 2, False), (3, 3, 1, False)):
            self.assertIs(is_easy(((2, 0, 2, low, 0), (1, room, 1, measure, 1))), easy)

    def test_leaky_rows(self):
        dice = dice_of("leaky")
        for _ in range(300):
            waters = random_frame(dice)
            leak, many = random_leak(dice, waters), dice.choice((0, 1, 7, 30))
            row, rows = leaky_play(waters, leak, many)
            self.assertTrue(same(leaky_row(waters, leak, many), row), (waters, leak))
            for rests in range(0, many + 1, 3):
                self.assertTrue(same(leaky_held(waters, leak, rests), rows[rests]))
        self.assertEqual(len(leaky_row(BROOK, None, 200)), 200)

    def test_a_leak_from_its_from_on(self):
        waters = ((2, 0, 3, 9, 0),)
        self.assertEqual(leaky_row(waters, None, 8), (0, 0, 0, 3, 0, 3, 0, 3))
        for since, row in ((3, (0, 0, 0, 1, 0, 3, 0, 3)), (4, (0, 0, 0, 3, 0, 1, 0, 3)), (5, (0, 0, 0, 3, 0, 1, 0, 3))):
            self.assertEqual(leaky_row(waters, ("valve", 0, 2, since), 8), row)


class Sums(unittest.TestCase):

    def by_trying(self, waters, row, most):
        """What all springs to most tell with which waters are easy and whose row begins so; None if that is unlike."""
        told = set()
        for springs in itertools.product(range(most + 1), repeat=len(waters)):
            own = with_springs(waters, springs)
            if is_easy_by_hand(own) and leaky_play(own, None, len(row))[0] == row:
                told.add(tuple([(lot, sum([springs[at] for at in lot])) for _, lot in lots_by_hand(waters)]))
        return told

    def test_against_all_springs(self):
        dice = dice_of("sums")
        kinds = {True: 0, False: 0}
        for _ in range(250):
            waters = random_frame(dice)
            springs = [dice.randint(0, 2) for _ in waters]
            last = max([rest for rest, _ in lots_by_hand(waters)])
            row = list(leaky_play(with_springs(waters, springs), None, last + dice.randint(1, 5))[0])
            if dice.random() < 0.3:
                row[dice.randrange(len(row))] = dice.randint(0, 3)
            row = tuple(row)
            told = self.by_trying(waters, row, 4)
            kinds[bool(told)] += 1
            if told:
                self.assertEqual(len(told), 1)
                self.assertTrue(same(sums_told(waters, row), list(told.pop())), (waters, row))
            else:
                with self.assertRaises(Unfit, msg=(waters, row)):
                    sums_told(waters, row)
        self.assertGreater(min(kinds.values()), 40)

    def test_its_own_springs_do_not_count(self):
        for springs in ((0, 0, 0), (9, 9, 9), (2, 1, 3)):
            self.assertEqual(sums_told(with_springs(BROOK, springs), (0, 0, 0, 1, 0, 3)), [((2,), 1), ((0, 1), 2)])

    def test_too_short(self):
        # The greatest way_out is 5: the row must have a place for it.
        row = leaky_row(BROOK, None, 12)
        self.assertEqual(max([way_out(BROOK, number) for number in range(3)]), 5)
        for many in range(13):
            if many > 5:
                self.assertEqual(sums_told(BROOK, row[:many]), [((2,), 3), ((0, 1), 3)])
            elif many > 0:
                with self.assertRaises(Unfit):
                    sums_told(BROOK, row[:many])

    def test_tight_lots(self):
        # What springs in the upper one of a LOT goes through its lift alone.
        waters = ((3, 0, 0, 2, 1), (1, 5, 0, 5, 0))
        self.assertEqual([way_out(waters, number) for number in (0, 1)], [3, 3])
        self.assertEqual(sums_told(waters, (0, 0, 0, 5, 0, 5)), [((0, 1), 5)])
        for row in ((0, 0, 0, 6), (0, 0, 0, 5, 0, 4), (0, 0, 0, 5, 0, 6), (0, 0, 1, 5), (0, 1, 0, 5), (1, 0, 0, 5)):
            with self.assertRaises(Unfit):
                sums_told(waters, row)
        with self.assertRaises(Unfit):
            sums_told(BROOK, (0, 0, 0, 5, 0, 4))

    def test_guarantee(self):
        dice = dice_of("each second rest")
        for _ in range(150):
            waters = easy_frame(dice)
            row = leaky_row(waters, None, 40)
            for rest, amount in enumerate(row):
                sums = [
                    sum([waters[at][2] for at in lot]) for first, lot in lots_by_hand(waters)
                    if rest >= first and (rest - first) % 2 == 0]
                self.assertEqual(amount, sum(sums))
            told = [(lot, sum([waters[at][2] for at in lot])) for _, lot in lots_by_hand(waters)]
            self.assertEqual(sums_told(waters, row[:max([first for first, _ in lots_by_hand(waters)]) + 1]), told)

    def test_calm_exactly_if_easy(self):
        dice = dice_of("calm and easy")
        for _ in range(200):
            waters = random_frame(dice)
            for engine in (None, (9, 9, (9,))):
                mine = (shaft_of(waters[0][0], True), waters, 1, engine)
                self.assertIs(is_calm(mine), engine is None and is_easy(waters))


class Fits(unittest.TestCase):

    def partings(self, waters, row, most, leaks):
        """The dict of the first rest at which each case is not as row, None if it fits."""
        found = {}
        for springs in itertools.product(range(most + 1), repeat=len(waters)):
            for place, leak in enumerate(leaks):
                own = leaky_play(with_springs(waters, springs), leak, len(row))[0]
                unlike = [rest for rest in range(len(row)) if own[rest] != row[rest]]
                found[springs, place] = unlike[0] if unlike else None
        return found

    def test_against_all_cases(self):
        dice = dice_of("fits")
        kinds = {True: 0, False: 0}
        for _ in range(120):
            waters = random_frame(dice)
            most, leaks = dice.randint(0, 2), tuple([random_leak(dice, waters) for _ in range(dice.randint(1, 3))])
            springs = [dice.randint(0, most) for _ in waters]
            row = list(leaky_play(with_springs(waters, springs), dice.choice(leaks), dice.randint(1, 14))[0])
            if dice.random() < 0.5:
                row[dice.randrange(len(row))] += 1
            row, named = tuple(row), (waters, tuple(row), most, leaks)
            found = self.partings(*named)
            fit = tuple([case for case in sorted(found) if found[case] is None])
            kinds[bool(fit)] += 1
            self.assertTrue(same(fits(*named), fit), named)
            for case in found:
                self.assertIs(is_fit(*named, case), case in fit)
            self.check_refusal(named, fit, tuple([found[case] for case in sorted(found)]))
        self.assertGreater(min(kinds.values()), 30)

    def check_refusal(self, named, fit, rests):
        """There are FITS or the REFUSAL, never both."""
        if fit:
            with self.assertRaises(CanNot):
                refusal(*named)
            self.assertIs(is_refusal(*named, rests), False)
            self.assertIs(is_refusal(*named, tuple([0 if rest is None else rest for rest in rests])), False)
        else:
            self.assertTrue(same(refusal(*named), rests))
            self.assertIs(is_refusal(*named, rests), True)
            for other in spoilt(rests):
                self.assertIs(is_refusal(*named, other), False, other)

    def test_its_own_springs_do_not_count(self):
        for springs in ((0, 0, 0), (9, 9, 9)):
            own = with_springs(BROOK, springs)
            self.assertEqual(fits(own, (0, 0, 0, 1, 0, 3), 1, (None,)), (((1, 1, 1), 0),))

    def test_things(self):
        named = (BROOK, (0, 0, 0, 1, 0, 3), 1, (None, None))
        self.assertEqual(fits(*named), (((1, 1, 1), 0), ((1, 1, 1), 1)))
        self.assertIs(is_fit(*named, ((1, 1, 1), 1)), True)
        for thing in (
                *ODD_THINGS, deep_thing(100), ((1, 1, 1), 2), ((1, 1, 1), -1), ((1, 1, 1), True), ((1, 1, True), 1), ([1, 1, 1], 1),
                [(1, 1, 1), 1], ((1, 1), 1), ((1, 1, 1, 1), 1), ((2, 1, 1), 1), ((0, 1, 1), 0), ((1, 1, 1), None), ((1, 1, 1),)):
            self.assertIs(is_fit(*named, thing), False, thing)
        lone = (BROOK, (1,), 0, (None,))
        self.assertEqual(refusal(*lone), (0,))
        for thing in (*ODD_THINGS, deep_thing(100), (False,), (0, 0), (1,), [0], 0):
            self.assertIs(is_refusal(*lone, thing), same(thing, (0,)), thing)

    def test_too_much(self):
        # 3 CISTERNS with springs to 6 are 343 cases, to 7 they are 512.
        for most, leaks, much in ((6, (None,), False), (7, (None,), True), (4, (None,) * 3, False), (4, (None,) * 4, True), (0, (None,) * 400, False),
                                  (0, (None,) * 401, True), (10 ** 6, (None,), True)):
            named = (BROOK, (1, 1), most, leaks)
            if not much:
                self.assertEqual(fits(*named), ())
                self.assertEqual(len(refusal(*named)), (most + 1) ** 3 * len(leaks))
                continue
            for call in (fits, refusal):
                with self.assertRaises(TooMuch):
                    call(*named)
            for call, thing in ((is_fit, ((1, 1, 1), 0)), (is_refusal, (0,)), (is_fit, None), (is_refusal, None)):
                with self.assertRaises(TooMuch):
                    call(*named, thing)
        # Ahead of CanNot().
        with self.assertRaises(TooMuch):
            refusal(BROOK, (0,), 7, (None,))
        with self.assertRaises(CanNot):
            refusal(BROOK, (0,), 6, (None,))


class Gauges(unittest.TestCase):

    def test_best_gauge(self):
        dice = dice_of("best")
        for _ in range(200):
            waters = random_frame(dice)
            leaks = tuple([random_leak(dice, waters) for _ in range(dice.randint(1, 5))])
            gauges = tuple([(dice.randrange(len(waters)), dice.randint(0, 12)) for _ in range(dice.randint(1, 4))])
            sizes = []
            for number, many in gauges:
                shown = [leaky_play(waters, leak, many)[1][many][number] for leak in leaks]
                sizes.append(max([shown.count(amount) for amount in shown]))
            self.assertTrue(same(best_gauge(waters, leaks, gauges), gauges[sizes.index(min(sizes))]))

    def test_no_place(self):
        for gauges, place in ((((0, 2), (3, 8)), 3), (((-1, 2), (3, 8)), -1), (((0, 2), (10 ** 12, 0), (-1, 0)), 10 ** 12)):
            with self.assertRaises(NoPlace) as caught:
                best_gauge(BROOK, LEAKS, gauges)
            self.assertEqual(caught.exception.place, place)

    def test_parting_gauge(self):
        dice = dice_of("parting")
        kinds = {True: 0, False: 0}
        for _ in range(300):
            waters = random_frame(dice)
            one, two, many = random_leak(dice, waters), random_leak(dice, waters), dice.randint(0, 14)
            rows, others = [leaky_play(waters, leak, many)[1] for leak in (one, two)]
            pairs = [
                (rests, at) for rests in range(many + 1) for at in range(len(waters)) if rows[rests][at] != others[rests][at]]
            self.assertTrue(same(parting_gauge(waters, one, two, many), min(pairs) if pairs else None))
            kinds[bool(pairs)] += 1
        self.assertGreater(min(kinds.values()), 60)
        self.assertEqual([parting_gauge(BROOK, *LEAKS[:2], many) for many in (4, 5)], [None, (5, 0)])

    def test_a_gauge_parts_what_no_row_parts(self):
        mine = (shaft_of(5, True), BROOK, 1, None)
        self.assertTrue(is_calm(mine))
        self.assertEqual({dent_of(mine, leak) for leak in LEAKS}, {(7, 2)})
        for one, two in itertools.combinations(LEAKS, 2):
            self.assertEqual(leaky_row(BROOK, one, 200), leaky_row(BROOK, two, 200))
            self.assertIsNotNone(parting_gauge(BROOK, one, two, 20))


class Frames(unittest.TestCase):

    def by_trying(self, waters, other):
        if len(waters) != len(other):
            return False
        for springs in itertools.product(range(3), repeat=len(waters)):
            one, two = with_springs(waters, springs), with_springs(other, springs)
            if is_easy_by_hand(one) and is_easy_by_hand(two):
                if leaky_play(one, None, 24)[0] != leaky_play(two, None, 24)[0]:
                    return False
        return True

    def test_against_springs(self):
        dice = dice_of("frames")
        kinds = {True: 0, False: 0}
        for _ in range(500):
            waters, other = random_frame(dice, 2), random_frame(dice, 2)
            expected = self.by_trying(waters, other)
            self.assertIs(frames_alike(waters, other), expected, (waters, other))
            kinds[expected and len(waters) > 1] += 1
        self.assertGreater(min(kinds.values()), 30)

    def test_rooms_of_none(self):
        # Without room nothing can spring below it, so the rods there are not seen.
        for room, alike in ((0, True), (1, False)):
            one = ((3, 0, 0, 1, 0), (2, 0, 0, 1, 0), (1, room, 0, 1, 1))
            two = ((3, 0, 0, 1, 1), (2, 0, 0, 1, 1), (1, 5, 0, 1, 1))
            self.assertIs(frames_alike(one, two), True)
            self.assertIs(frames_alike(one, (two[0], two[1], (1, 5, 0, 1, 0))), room == 0)
            low = ((3, 0, 0, 1, 0), (2, 1, 0, 1, 0), (1, room, 0, 1, 1))
            self.assertIs(frames_alike(low, ((3, 0, 0, 1, 1), (2, 1, 0, 1, 0), (1, 5, 0, 1, 1))), alike)
        self.assertIs(frames_alike(((2, 0, 0, 1, 0),), ((5, 9, 9, 9, 0),)), True)
        self.assertIs(frames_alike(((2, 0, 0, 1, 0),), ((5, 9, 9, 9, 1),)), False)

    def test_guarantee(self):
        dice = dice_of("neighbours")
        for _ in range(300):
            waters, other = easy_frame(dice), easy_frame(dice)
            neighbours = [
                [at for at in range(len(own) - 1) if way_out(own, at) == way_out(own, at + 1)] for own in (waters, other)]
            expected = len(waters) == len(other) and waters[-1][4] == other[-1][4] and neighbours[0] == neighbours[1]
            self.assertIs(frames_alike(waters, other), expected)


class Manners(unittest.TestCase):

    def test_manners(self):
        check_manners(self, is_easy, {"waters": BROOK})
        for leak in (None, LEAKS[0]):
            for call in (leaky_row, leaky_held):
                check_manners(self, call, {"waters": BROOK, "leak": leak, "many": 9})
            check_manners(self, parting_gauge, {"waters": BROOK, "leak": leak, "other_leak": LEAKS[1], "many": 9})
        for row in ((0, 0, 0, 1, 0, 3), (0, 0, 0, 1), (0, 0, 0, 1, 0, 0)):
            check_manners(self, sums_told, {"waters": BROOK, "row": row})
            for most in (1, 9):
                named = {"waters": BROOK, "row": row, "most": most, "leaks": (None, LEAKS[0])}
                check_manners(self, fits, named)
                check_manners(self, refusal, named)
                check_manners(self, is_fit, {**named, "thing": ((1, 1, 1), 0)}, ("thing",))
                check_manners(self, is_refusal, {**named, "thing": (3,) * 16}, ("thing",))
        self.assertEqual(listed(plain_rows(BROOK, (0, 0, 0), 1)[1]), [0, 0])
        for gauges in (((0, 2), (1, 8)), ((0, 2), (3, 8))):
            check_manners(self, best_gauge, {"waters": BROOK, "leaks": LEAKS, "gauges": gauges})
        check_manners(self, frames_alike, {"waters": BROOK, "other": BROOK[::-1]})


if __name__ == "__main__":
    unittest.main()
