"""[17]: last passings, last slots."""

import itertools
import time
import unittest

from helpers import (
    ODD_THINGS, LonePlay, check_manners, deep_thing, dice_of, listed, outcome, random_mine, same, shaft_of, spoilt, wet_by_hand)
from manrods.errors import CanNot, Unfit
from manrods.lasts import (
    comes_up, flood_of, is_flood, last_slots, last_trip, lasts_of, made_row, slots_of, wet_from)

WELL = ((4, True, (0, 0, 0, 0, 0)), ((4, 0, 3, 1, 0),), 2, None)
STUCK = WELL[:3] + ((2, 0, (1,)),)


class Play:
    """The lone run to the beginning of rest many, and what becomes of men in it, stroke by stroke."""

    def __init__(self, mine, many):
        self.mine, self.many, self.deep = mine, many, mine[0][0]
        rows = LonePlay(mine, many).rows
        self.mades = [row[0] for row in rows]
        self.wet = [wet_by_hand(self.deep, mine[2], row[1]) for row in rows]

    def wet_from(self, level):
        return min([rest for rest in range(self.many + 1) if level in self.wet[rest]], default=None)

    def is_passed(self, level, made):
        last = max([rest for rest in range(self.many + 1) if self.mades[rest] == made])
        return not any([level in self.wet[rest] for rest in range(last + 1)])

    def last_made(self, level):
        if self.wet_from(level) is None:
            return None
        return max([made for made in set(self.mades) if self.is_passed(level, made)], default=-1)

    def last_slot(self, level):
        lasts = [(self.last_made(place), place) for place in range(1, level + 1)]
        return min([made + place for made, place in lasts if made is not None], default=None)

    def rise(self, level, slot):
        """What becomes of him: lost, up, or on his way."""
        at = level
        for rest in range(self.many + 1):
            if rest and self.mades[rest] > self.mades[rest - 1] and self.mades[rest] > slot - level and at > 0:
                at -= 1
            if at in self.wet[rest]:
                return "lost"
        return "up" if at == 0 else "on his way"

    def floods(self, level, slot):
        return [(place, rest) for rest in range(self.many + 1) for place in range(1, level + 1)
                if place in self.wet[rest] and self.mades[rest] <= slot - place]

    def bars_of_ride(self, bars, level, slot):
        """The triples of bars that he would come upon, stride by stride."""
        at, made, found = level, slot - level, []
        while at > 0:
            found.extend([bar for bar in bars if bar[0] == at - 1 and bar[1] == slot % 2 and made >= bar[2]])
            at -= 1
            made += 1
        return found

    def can_trip(self, level, stay, board):
        """Whether he who boards at the grass then comes back, never at a wet level."""
        places = [0, *range(1, level + 1), *[level] * stay, *range(level - 1, -1, -1)]
        for rest in range(self.many + 1):
            stroke = self.mades[rest] - board
            if 0 <= stroke < len(places) and places[stroke] in self.wet[rest]:
                return False
        return self.mades[-1] >= board + len(places) - 1


def random_case(dice, engines=True):
    mine = random_mine(dice, dice.choice((2, 5)), 3, engines)
    return mine, dice.randint(0, 40)


class Passing(unittest.TestCase):

    def test_rows(self):
        dice = dice_of("rows")
        kinds = {}
        for _ in range(250):
            mine, many = random_case(dice)
            play = Play(mine, many)
            levels = range(1, play.deep + 1)
            self.assertTrue(same(made_row(mine, many), tuple(play.mades)))
            for level in levels:
                self.assertEqual(wet_from(mine, level, many), play.wet_from(level))
            lasts = tuple([play.last_made(level) for level in levels])
            self.assertTrue(same(lasts_of(mine, many), lasts), (mine, many))
            slots = tuple([play.last_slot(level) for level in levels])
            self.assertTrue(same(last_slots(mine, many), slots), (mine, many))
            kinds["some"] = kinds.get("some", 0) + (None in lasts and lasts != (None,) * play.deep)
            tops = [min(wet, default=99) for wet in play.wet]
            kinds["dry again"] = kinds.get("dry again", 0) + any([two > one + 1 for one, two in zip(tops, tops[1:])])
            kinds["ends"] = kinds.get("ends", 0) + (len(play.mades) > 10 and play.mades[-1] == play.mades[-5])
        for kind in ("some", "dry again", "ends"):
            self.assertGreater(kinds[kind], 10, kinds)

    def test_a_mine_that_falls_dry_again(self):
        # Steam comes only each 20 rests, and then a lot.
        mine = (shaft_of(4, True), ((4, 0, 1, 40, 0),), 3, (200, 0, (*[0] * 18, 200, 0)))
        play = Play(mine, 60)
        self.assertIn([], play.wet[20:])
        self.assertGreater(len(play.wet[18]), 2)
        for level in range(1, 5):
            self.assertEqual(wet_from(mine, level, 60), play.wet_from(level))
            for slot in range(level, 30):
                self.assertIs(comes_up(mine, level, slot, 60), play.rise(level, slot) == "up")
        self.assertEqual(lasts_of(mine, 60), tuple([play.last_made(level) for level in range(1, 5)]))

    def test_never_wet(self):
        mine = (shaft_of(3, True), ((3, 0, 1, 1, 0),), 5, None)
        self.assertEqual((lasts_of(mine, 50), last_slots(mine, 50)), ((None,) * 3, (None,) * 3))
        self.assertEqual([wet_from(mine, level, 50) for level in (1, 2, 3)], [None] * 3)

    def test_wet_at_the_last_rest(self):
        # Level 4 is wet at rest 2, so not to the beginning of rest 1, but to that of rest 2.
        self.assertEqual([wet_from(WELL, 4, many) for many in (0, 1, 2)], [None, None, 2])
        self.assertEqual([lasts_of(WELL, many)[3] for many in (0, 1, 2)], [None, None, 1])
        self.assertEqual(made_row(WELL, 0), (0,))


class Slots(unittest.TestCase):

    def test_comes_up(self):
        dice = dice_of("comes up")
        kinds = {"lost": 0, "up": 0, "on his way": 0}
        for _ in range(120):
            mine, many = random_case(dice)
            play, slots = Play(mine, many), last_slots(mine, many)
            for level in range(1, play.deep + 1):
                for slot in range(level, many + 6):
                    fate = play.rise(level, slot)
                    self.assertIs(comes_up(mine, level, slot, many), fate == "up", (mine, level, slot, many))
                    last = slots[level - 1]
                    self.assertIs(fate == "lost", last is not None and slot > last)
                    kinds[fate] += 1
        self.assertGreater(min(kinds.values()), 200)

    def test_floods(self):
        dice = dice_of("floods")
        for _ in range(60):
            mine, many = random_mine(dice, 5, 3), dice.randint(0, 14)
            play = Play(mine, many)
            for level in range(1, play.deep + 1):
                for slot in range(level, many + 4, 2):
                    floods = play.floods(level, slot)
                    self.assertIs(play.rise(level, slot) == "lost", floods != [])
                    found = outcome(flood_of, mine, level, slot, many)
                    if floods:
                        least = min(floods, key=lambda flood: (flood[1], -flood[0]))
                        self.assertTrue(same(found, ("value", least)), (mine, level, slot, many))
                    else:
                        self.assertEqual(found[:2], ("error", "CanNot"))
                    for thing in itertools.product(range(-1, level + 2), range(-1, many + 2)):
                        self.assertIs(is_flood(mine, level, slot, many, thing), thing in floods)

    def test_things_that_are_no_flood(self):
        self.assertIs(is_flood(WELL, 4, 6, 12, (4, 2)), True)
        self.assertIs(is_flood(listed(WELL), 4, 6, 12, (4, 2)), True)
        floods = Play(WELL, 12).floods(4, 6)
        for thing in [*spoilt((4, 2)), *ODD_THINGS, deep_thing(100), (4, 13), (5, 2), (0, 12), (10 ** 20, 3)]:
            good = type(thing) is tuple and [type(part) for part in thing] == [int, int] and thing in floods
            self.assertIs(is_flood(WELL, 4, 6, 12, thing), good, thing)

    def test_unfit_goes_first(self):
        for level in (1, 4):
            for slot in range(level):
                for mine in (WELL, STUCK):
                    with self.assertRaises(Unfit):
                        comes_up(mine, level, slot, 12)
                    with self.assertRaises(Unfit):
                        flood_of(mine, level, slot, 12)
                    for thing in ((4, 2), None, (1, 99)):
                        with self.assertRaises(Unfit):
                            is_flood(mine, level, slot, 12, thing)
        with self.assertRaises(Unfit):
            flood_of(WELL, 4, 3, 0)
        with self.assertRaises(CanNot):
            flood_of(WELL, 4, 4, 0)

    def test_great_slots(self):
        self.assertIs(comes_up(WELL, 1, 10 ** 12, 12), False)
        self.assertEqual(flood_of(WELL, 4, 10 ** 12, 12), (4, 2))
        self.assertIs(is_flood(WELL, 4, 10 ** 12, 12, (1, 8)), True)
        dry = (shaft_of(3, True), ((3, 0, 0, 1, 0),), 5, None)
        self.assertIs(comes_up(dry, 3, 12, 12), True)
        self.assertIs(comes_up(dry, 3, 13, 12), False)
        self.assertEqual(slots_of(dry, (), 3, 10 ** 12, 12), ())

    def test_slots_of(self):
        dice = dice_of("slots of")
        count = 0
        for _ in range(250):
            mine, many = random_case(dice, dice.random() < 0.5)
            if dice.random() < 0.5:
                mine = (*mine[:2], mine[2] * 4, mine[3])
            play = Play(mine, many)
            level, ready = dice.randint(1, play.deep), dice.randint(0, 5)
            bars = tuple(sorted({(dice.randrange(play.deep), dice.randint(0, 1), dice.randint(0, 12)) for _ in range(dice.randint(0, 4))}))
            good = [slot for slot in range(ready + level, many + 9)
                    if play.rise(level, slot) == "up" and not play.bars_of_ride(bars, level, slot)]
            self.assertTrue(same(slots_of(mine, bars, level, ready, many), tuple(good)), (mine, bars, level, ready, many))
            unbarred = slots_of(mine, (), level, ready, many)
            count += len(good) not in (0, len(unbarred))
        self.assertGreater(count, 30)

    def test_bars_at_their_edges(self):
        dry = (shaft_of(3, True), ((3, 0, 0, 1, 0),), 5, None)
        # With slot 6 he makes stride 2 at made 3, stride 1 at made 4, stride 0 at made 5.
        for stride, made in ((2, 3), (1, 4), (0, 5)):
            for since, barred in ((made - 1, True), (made, True), (made + 1, False)):
                self.assertIs(6 in slots_of(dry, ((stride, 0, since),), 3, 0, 20), not barred)
                self.assertIs(6 in slots_of(dry, ((stride, 1, since),), 3, 0, 20), True)
        self.assertIn(6, slots_of(dry, ((2, 0, 0), (2, 1, 0)), 2, 0, 20))


class Trips(unittest.TestCase):

    def test_last_trip(self):
        dice = dice_of("trips")
        kinds = {True: 0, False: 0}
        for _ in range(300):
            mine, many = random_case(dice)
            if dice.random() < 0.6:
                mine = (*mine[:2], mine[2] * 5, mine[3])
            play = Play(mine, many)
            level, stay = dice.randint(1, play.deep), dice.randint(0, 8)
            good = [board for board in range(many + 2) if play.can_trip(level, stay, board)]
            found = last_trip(mine, level, stay, many)
            self.assertEqual(found, max(good, default=-1), (mine, level, stay, many))
            kinds[found >= 0] += 1
        self.assertGreater(min(kinds.values()), 60)

    def test_edges(self):
        dry = (shaft_of(3, True), ((3, 0, 0, 1, 0),), 5, None)
        self.assertEqual([last_trip(dry, 3, 0, many) for many in (5, 6, 7)], [-1, 0, 1])
        self.assertEqual([last_trip(dry, 3, 2, many) for many in (7, 8, 20)], [-1, 0, 12])
        self.assertEqual(last_trip(dry, 3, 10 ** 6, 1000), -1)

    def test_a_thousand_rests(self):
        begun = time.process_time()
        for mine in (WELL, STUCK, (shaft_of(40, True), ((40, 0, 9, 5, 1),), 20, None)):
            play = Play(mine, 1000)
            for level, stay in ((1, 0), (1, 400), (4, 20)):
                good = [board for board in range(1001) if play.can_trip(level, stay, board)]
                self.assertEqual(last_trip(mine, level, stay, 1000), max(good, default=-1))
            self.assertEqual(last_slots(mine, 1000)[3], play.last_slot(4))
        self.assertLess(time.process_time() - begun, 60)


class Manners(unittest.TestCase):

    def test_manners(self):
        for mine in (WELL, STUCK):
            for call in (made_row, lasts_of, last_slots):
                check_manners(self, call, {"mine": mine, "many": 8})
            check_manners(self, wet_from, {"mine": mine, "level": 3, "many": 8})
            for level, slot in ((4, 6), (4, 4), (3, 2)):
                told = {"mine": mine, "level": level, "slot": slot, "many": 8}
                check_manners(self, comes_up, told)
                check_manners(self, flood_of, told)
                check_manners(self, is_flood, {**told, "thing": (4, 2)}, ("thing",))
            check_manners(self, slots_of, {"mine": mine, "bars": ((0, 1, 5),), "level": 2, "ready": 0, "many": 8})
            check_manners(self, last_trip, {"mine": mine, "level": 1, "stay": 1, "many": 8})


if __name__ == "__main__":
    unittest.main()
