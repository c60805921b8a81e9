"""[7]: dances."""

import itertools
import unittest

from helpers import ODD_THINGS, check_manners, deep_thing, dice_of, listed, random_book, same, shaft_of, spoilt
from manrods.dances import (
    dance_rows, fates, first_bar, is_bar, is_lane, lane_behind, lane_end, lane_stays, nobody_barred)
from manrods.meetings import clashes, meetings
from manrods.rides import colour_of, is_riser, mark_of, ridden
from manrods.shafts import faced_level, facing_platform, stride_of, stride_platforms

NARROW, WIDE = shaft_of(4, False, 0), shaft_of(4, True, 0)
CROWD = ((4, 0, 0), (0, 4, 0), (4, 0, 2), (4, 0, 3))


def wanted_platform(shaft, level, to, made):
    """The PLATFORM at level that goes towards to at the next stroke."""
    goes_up = to < level
    rod = (1 if made % 2 == 0 else 0) if goes_up else (0 if made % 2 == 0 else 1)
    return facing_platform(shaft, rod, level, made)


class Play:
    """The run of a BOOK, rest by rest, on the PLATFORMS themselves."""

    def __init__(self, shaft, book):
        self.shaft, self.book, self.made = shaft, book, 0
        self.on, self.home, self.boarded, self.since = {}, {}, {}, {}

    def rest(self):
        bars, told = [], dict(self.on)
        for man, platform in told.items():
            if faced_level(platform, self.made) == self.book[man][1]:
                del self.on[man]
                self.home[man] = self.made
        bars.extend(self.cross())
        for man, (start, to, ready) in enumerate(self.book):
            if ready <= self.made and man not in self.boarded:
                want = wanted_platform(self.shaft, start, to, self.made)
                there = [other for other in self.on if self.on[other] == want]
                if there:
                    bars.append((man, there[0], self.made))
                else:
                    self.on[man] = want
                    self.boarded[man] = self.made
        for man, platform in self.on.items():
            if told.get(man) != platform:
                self.since[man] = (self.made, stride_of(platform))
        self.made += 1
        return bars

    def cross(self):
        bars, moved = [], {}
        for man, platform in self.on.items():
            level = faced_level(platform, self.made)
            want = wanted_platform(self.shaft, level, self.book[man][1], self.made)
            there = [other for other in self.on if self.on[other] == want]
            if want == platform:
                continue
            if there and not self.shaft[1]:
                bars.append((man, there[0], self.made))
                continue
            moved[man] = want
            if there:
                moved[there[0]] = platform
        self.on.update(moved)
        return bars

    def fate(self, man):
        if man in self.home:
            return ("home", self.home[man])
        return ("dance", *self.since[man]) if man in self.on else ("waits",)


def played(shaft, book, rests):
    play = Play(shaft, book)
    return play, [sorted(play.rest()) for _ in range(rests)]


def random_case(dice, last):
    deep = dice.choice((2, 3, 4, 6, 9))
    if dice.random() < 0.2:
        # So many from both ends that lanes fill up and some never board.
        whole = ((0, deep), (deep, 0))
        return shaft_of(deep, False, 0), tuple([(*dice.choice(whole), dice.randint(0, last)) for _ in range(12)])
    return shaft_of(deep, dice.random() < 0.3, 0), random_book(dice, deep, dice.randint(0, 9), last)


class Lanes(unittest.TestCase):

    def test_lanes_as_things(self):
        for lane in ((None,) * 4, (0, 1, 2, 3), (4, 4, 4, 4), (None, 0, None, 4)):
            self.assertIs(is_lane(NARROW, lane), True)
            self.assertIs(is_lane(listed(WIDE), lane), True)
            self.assertIs(is_lane(NARROW, list(lane)), False)

    def test_no_lanes(self):
        odd = [thing for thing in ODD_THINGS if not same(thing, (1, 2, 3, 4))]
        bad = [
            (None,) * 3, (None,) * 5, (), (0, 1, 2, 5), (0, 1, -1, 2), (0, 1, True, 2), (0, 1, False, 2), (0, 1, "2", 2),
            (0, 1, (2,), 2), (0, 1, [2], 2), (0, 1, 10 ** 30, 2), deep_thing(100)]
        for thing in bad + odd:
            self.assertIs(is_lane(NARROW, thing), False, thing)
        for thing in spoilt((None, 4, 0, 1)):
            good = isinstance(thing, tuple) and len(thing) == 4 and all(
                [part is None or type(part) is int and 0 <= part <= 4 for part in thing])
            self.assertIs(is_lane(NARROW, thing), good, thing)

    def lane_by_platforms(self, shaft, lane, colour, made):
        """The LANE behind a rest, on the PLATFORMS of this colour."""
        deep = shaft[0]
        used = {}
        for stride in range(deep):
            riser = ridden(shaft, (stride + 1, stride, 0), (colour - stride - 1) % 2)
            self.assertIn(riser[0], stride_platforms(shaft, stride))
            used[stride] = riser[0]
        rides = {stride: (4 if to else 0, to, 0) for stride, to in enumerate(lane) if to is not None}
        play = Play(shaft, rides)
        play.made = made
        play.on = {stride: used[stride] for stride in rides}
        play.home = {}
        for man in list(play.on):
            if faced_level(play.on[man], made) == lane[man]:
                del play.on[man]
        play.cross()
        behind = [None] * deep
        for man, platform in play.on.items():
            self.assertEqual(used[stride_of(platform)], platform)
            behind[stride_of(platform)] = lane[man]
        return tuple(behind)

    def test_lane_behind(self):
        shafts = (shaft_of(3, False), shaft_of(3, True))
        values = (None, 0, 1, 2, 3)
        for shaft, colour, made in itertools.product(shafts, (0, 1), (0, 1, 10 ** 12, 10 ** 12 + 1)):
            for lane in itertools.product(values, repeat=3):
                found = lane_behind(shaft, lane, colour, made)
                self.assertTrue(is_lane(shaft, found))
                self.assertTrue(same(found, self.lane_by_platforms(shaft, lane, colour, made)), (shaft, lane, colour, made))

    def test_wide_and_narrow(self):
        # Both change over though the lower one, who sinks, is where he wants to be.
        lane = (None, 4, 4, None)
        self.assertEqual(lane_behind(WIDE, lane, 0, 2), lane)
        self.assertEqual(lane_behind(WIDE, (None, 4, 3, None), 0, 2), (None, 3, 4, None))
        self.assertEqual(lane_behind(NARROW, (None, 4, 3, None), 0, 2), (None, 4, 3, None))
        self.assertEqual(lane_behind(WIDE, (None, 4, 0, None), 0, 2), (None, 0, 4, None))
        self.assertEqual(lane_behind(NARROW, (None, 4, 0, None), 0, 2), (None, 4, 0, None))
        # Who gets off makes room at the same rest.
        self.assertEqual(lane_behind(NARROW, (None, 4, 2, None), 0, 2), (None, None, 4, None))

    def test_lane_stays_and_end(self):
        stays = 0
        shafts = (shaft_of(4, False), shaft_of(4, True))
        for lane in itertools.product((None, 0, 1, 2, 3, 4), repeat=4):
            changes = {}
            for colour, made in itertools.product((0, 1), (0, 7)):
                row, last = lane, made
                for at in range(made, made + 40):
                    behind = lane_behind(NARROW, row, colour, at)
                    if behind != row:
                        row, last = behind, at + 1
                changes[colour, made] = (last, row)
                for shaft in shafts:
                    self.assertTrue(same(lane_end(shaft, lane, colour, made), (last, row)), (lane, colour, made))
            still = all([last == made and row == lane for (_, made), (last, row) in changes.items()])
            stays += still
            for shaft in shafts:
                self.assertIs(lane_stays(shaft, lane), still, lane)
        self.assertGreater(stays, 10)

    def test_lane_end_far(self):
        far = 10 ** 12
        self.assertEqual(lane_end(NARROW, (4, None, None, 0), 0, far + 1), (far + 2, (None, 4, 0, None)))
        self.assertEqual(lane_end(NARROW, (None,) * 4, 1, far), (far, (None,) * 4))
        long = (40,) + (None,) * 39
        self.assertEqual(lane_end(shaft_of(40, True), long, 0, 0), (41, (None,) * 40))
        # Of colour 1 he faces level 1 at once, and crosses at the rest of made 0.
        self.assertEqual(lane_end(shaft_of(40, True), long, 1, 0), (40, (None,) * 40))


class Runs(unittest.TestCase):

    def test_against_own_play(self):
        dice = dice_of("dances")
        kinds = {}
        for _ in range(250):
            shaft, book = random_case(dice, 12)
            play, bars = played(shaft, book, 150)
            found = fates(shaft, book)
            for fate in found:
                kinds[fate[0]] = kinds.get(fate[0], 0) + 1
            self.assertTrue(same(found, tuple([play.fate(man) for man in range(len(book))])), (shaft, book))
            self.assertTrue(same(dance_rows(shaft, book), self.rows_of(play)), (shaft, book))
            some = [min(row) for row in bars if row]
            self.assertTrue(same(first_bar(shaft, book), some[0] if some else None), (shaft, book))
            self.assertIs(nobody_barred(shaft, book), not some)
            self.check_bars(shaft, book, bars)
        self.assertEqual(sorted(kinds), ["dance", "home", "waits"])

    def rows_of(self, play):
        """The rows of dancers as the PLATFORMS stand, stride by stride."""
        rows = []
        for colour in (0, 1):
            on = {}
            for man, platform in play.on.items():
                start, to, _ = play.book[man]
                mark = mark_of((start, to, 0), play.boarded[man])
                if colour_of(mark) == colour:
                    on[stride_of(platform)] = man
            begun = None
            for stride in sorted(on):
                if stride - 1 not in on:
                    begun = (colour, stride, [])
                    rows.append(begun)
                begun[2].append(on[stride])
        return [(colour, stride, tuple(men)) for colour, stride, men in rows]

    def check_bars(self, shaft, book, bars):
        men = range(len(book))
        for made in (*range(0, 30), 98, 99):
            told = {bar[:2] for bar in bars[made]}
            for man, other in itertools.product(men, men):
                if (man, other) in told or (man + other + made) % 5 == 0:
                    self.assertIs(is_bar(shaft, book, (man, other, made)), (man, other) in told)
        for made in (98, 99):
            far = 10 ** 30 + made
            for man, other, _ in bars[made]:
                self.assertIs(is_bar(shaft, book, (man, other, far)), True)
                self.assertIs(is_bar(shaft, book, (other, man, far)), (other, man, made) in bars[made])

    def test_far_readies(self):
        """A BOOK whose men come long apart goes on as one whose men come less long apart."""
        dice = dice_of("far")
        for _ in range(40):
            shaft, book = random_case(dice, 12)
            late = random_book(dice, shaft[0], 4, 12)
            far = 10 ** 6 - 100
            play, bars = played(shaft, book + tuple([(a, b, n + 200) for a, b, n in late]), 400)
            both = book + tuple([(a, b, n + far) for a, b, n in late])
            expected = []
            for man in range(len(both)):
                fate = play.fate(man)
                if fate[0] != "waits" and fate[1] >= 200:
                    fate = (fate[0], fate[1] - 200 + far, *fate[2:])
                expected.append(fate)
            self.assertEqual(fates(shaft, both), tuple(expected))
            self.assertEqual(dance_rows(shaft, both), self.rows_of(play))
            first = next((min(row) for row in bars if row), None)
            if first is not None and first[2] >= 200:
                first = (*first[:2], first[2] - 200 + far)
            self.assertEqual(first_bar(shaft, both), first)
            for made in range(200, 230):
                for man, other, _ in bars[made]:
                    self.assertIs(is_bar(shaft, both, (man, other, made - 200 + far)), True)

    def test_somebody_ready_when_all_is_still_tries_both_colours(self):
        # A dance fills one lane at level 4; who comes later must find the other one.
        book = ((4, 0, 0), (0, 4, 0), (4, 0, 2))
        lane_is_full = fates(NARROW, book)[2]
        self.assertEqual(lane_is_full, ("dance", 2, 3))
        for ready in (10, 11, 999999, 10 ** 6):
            board = ready + 1 - ready % 2
            self.assertEqual(fates(NARROW, book + ((4, 0, ready),))[3], ("home", board + 4), ready)

    def test_guarantee_nobody_barred(self):
        dice = dice_of("guarantee")
        free = {True: 0, False: 0}
        for _ in range(400):
            shaft, book = random_case(dice, 20)
            expected = clashes(book) == [] and (shaft[1] or meetings(book) == [])
            self.assertIs(nobody_barred(shaft, book), expected, (shaft, book))
            free[expected] += 1
        self.assertGreater(min(free.values()), 50)

    def test_guarantee_who_waits_at_a_rest_is_two_strokes_later(self):
        dice = dice_of("strokes")
        for _ in range(150):
            shaft, book = random_case(dice, 9)
            play, bars = played(shaft, book, 200)
            for man, made in play.home.items():
                start, to, _ = book[man]
                held = len([bar for row in bars for bar in row if bar[0] == man and bar[2] > play.boarded[man]])
                self.assertEqual(made, play.boarded[man] + abs(start - to) + 2 * held)
                self.assertTrue(held == 0 or not shaft[1])

    def test_no_men(self):
        for shaft in (NARROW, WIDE):
            self.assertEqual((fates(shaft, ()), dance_rows(shaft, ()), first_bar(shaft, ())), ((), [], None))
            self.assertIs(nobody_barred(shaft, ()), True)
            self.assertIs(is_bar(shaft, (), (0, 1, 5)), False)

    def test_no_bars(self):
        true = (2, 0, 10 ** 9 + 1)
        self.assertIs(is_bar(NARROW, CROWD, true), True)
        odd = [thing for thing in ODD_THINGS if not same(thing, (1, 2, 3))]
        for thing in [*odd, list(true), (2, 0), (2, 0, 3, 3), (2, False, 3), (2, 0, -1), (-2, 0, 3), (2, -4, 3), (99, 0, 3)]:
            self.assertIs(is_bar(NARROW, CROWD, thing), False, thing)
        for thing in spoilt(true):
            self.assertIs(is_bar(NARROW, CROWD, thing), False, thing)
        self.assertIs(is_bar(NARROW, CROWD, (1, 0, 10 ** 40)), True)
        self.assertIs(is_bar(NARROW, CROWD, (1, 0, 10 ** 40 + 1)), False)

    def test_boarding_bars_in_a_wide_shaft(self):
        book = ((4, 0, 0), (4, 0, 0), (3, 1, 1))
        self.assertEqual(first_bar(WIDE, book), (1, 0, 0))
        self.assertIs(is_bar(WIDE, book, (2, 0, 1)), True)
        self.assertIs(is_bar(WIDE, book, (2, 1, 1)), False)
        self.assertEqual(fates(WIDE, book), (("home", 4), ("home", 5), ("home", 5)))

    def test_a_long_dance(self):
        deep = 40
        book = tuple([(0, deep, 0), (deep, 0, 0)] + [(deep, 0, 2 * k) for k in range(1, 30)])
        found = fates(shaft_of(deep, False), book)
        play, _ = played(shaft_of(deep, False), book, 400)
        self.assertEqual(found, tuple([play.fate(man) for man in range(len(book))]))
        self.assertEqual(sum([len(row[2]) for row in dance_rows(shaft_of(deep, False), book)]),
                         sum([fate[0] == "dance" for fate in found]))
        self.assertTrue(all([is_riser(ride) for ride in book[1:]]))


class Manners(unittest.TestCase):

    def test_manners(self):
        for shaft in (NARROW, WIDE):
            lane = (None, 4, 0, None)
            check_manners(self, is_lane, {"shaft": shaft, "thing": lane}, ("thing",))
            check_manners(self, lane_behind, {"shaft": shaft, "lane": lane, "colour": 0, "made": 2})
            check_manners(self, lane_stays, {"shaft": shaft, "lane": lane})
            check_manners(self, lane_stays, {"shaft": shaft, "lane": (3, 0, 4, 1)})
            check_manners(self, lane_end, {"shaft": shaft, "lane": (4, None, None, 0), "colour": 0, "made": 1})
            check_manners(self, lane_end, {"shaft": shaft, "lane": lane, "colour": 0, "made": 1})
            for call in (fates, dance_rows, nobody_barred, first_bar):
                check_manners(self, call, {"shaft": shaft, "book": CROWD})
            check_manners(self, is_bar, {"shaft": shaft, "book": CROWD, "thing": (2, 0, 10 ** 9 + 1)}, ("thing",))


if __name__ == "__main__":
    unittest.main()
