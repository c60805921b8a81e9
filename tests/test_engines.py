"""[16]: steam and missed strokes."""

import itertools
import unittest

from helpers import (
    ODD_THINGS, LonePlay, WaterPlay, check_manners, deep_thing, dice_of, listed, random_held, random_mine, same, shaft_of,
    spoilt, weight_by_hand)
from manrods.engines import (
    first_lack, greatest_weights, is_lack, is_stroke_made, least_more, least_room, lone_rows, missed_strokes,
    steam_behind, stroke_weight, weights_ahead)
from manrods.errors import Unfit

MILL = ((4, True, (0, 0, 0, 0, 0)), ((4, 0, 3, 3, 0), (2, 6, 1, 4, 1)), 4, (10, 4, (5, 8)))
FREE = MILL[:3] + (None,)


def with_engine(mine, engine):
    return mine[:3] + (engine,)


def lacks_by_hand(mine, many):
    """All LACKS of many rests, by adding up for each pair."""
    if mine[3] is None:
        return []
    room, begin, stokes = mine[3]
    weights = LonePlay(mine, many, True).weights
    found = []
    for first, last in itertools.combinations_with_replacement(range(many), 2):
        stoked = [stokes[rest % len(stokes)] for rest in range(first, last)]
        if sum(weights[first:last + 1]) > (begin if first == 0 else room) + sum(stoked):
            found.append((first, last))
    return found


def random_loose_and_leaks(dice, waters):
    loose = tuple([at for at in range(len(waters)) if dice.random() < 0.2])
    return loose, tuple([dice.randint(0, 4) if dice.random() < 0.3 else 0 for _ in waters])


class Weights(unittest.TestCase):

    def test_stroke_weight(self):
        dice = dice_of("weight")
        for _ in range(500):
            mine = random_mine(dice)
            waters = mine[1]
            held, (loose, leaks) = random_held(dice, waters, 9), random_loose_and_leaks(dice, waters)
            made = dice.choice((0, 1, 2, 7, 10 ** 12))
            brought = WaterPlay(waters, held).lift(1 - made % 2, loose, leaks)
            weight = weight_by_hand(waters, brought)
            self.assertTrue(same(stroke_weight(mine, held, made, loose, leaks), weight))
            for steam in (0, weight - 1, weight, weight + 1):
                if steam < 0:
                    continue
                expected = mine[3] is None or steam >= weight
                self.assertIs(is_stroke_made(mine, held, made, steam, loose, leaks), expected)

    def test_up_to_the_grass(self):
        # The last lift goes up to level 0, wherever its CISTERN is.
        waters = ((4, 0, 0, 9, 1), (3, 9, 0, 9, 1), (1, 9, 0, 9, 1))
        mine = (shaft_of(4, True), waters, 1, None)
        for held, weight in (((1, 0, 0), 1), ((0, 1, 0), 2), ((0, 0, 1), 1), ((2, 3, 4), 12)):
            self.assertEqual(stroke_weight(mine, held, 0, (), (0, 0, 0)), weight)
            self.assertEqual(stroke_weight(mine, held, 1, (), (0, 0, 0)), 0)
        self.assertEqual(stroke_weight(mine, (2, 3, 4), 0, (1,), (1, 0, 9)), 1)

    def test_at_the_very_weight(self):
        for steam, made in ((5, False), (7, False), (8, True), (9, True)):
            self.assertIs(is_stroke_made(MILL, (3, 4), 4, steam, (), (0, 0)), made)
        self.assertIs(is_stroke_made(MILL, (0, 0), 0, 0, (), (0, 0)), True)
        self.assertIs(is_stroke_made(FREE, (10 ** 6, 6), 4, 0, (), (0, 0)), True)

    def test_greatest_weights(self):
        dice = dice_of("greatest")
        for _ in range(200):
            mine = random_mine(dice)
            waters = mine[1]
            most = [0, 0]
            fullest = (10 ** 9, *[cistern[1] for cistern in waters[1:]])
            for made in (0, 1):
                most[1 - made] = weight_by_hand(waters, WaterPlay(waters, fullest).lift(1 - made))
            self.assertTrue(same(greatest_weights(mine), tuple(most)))
            held = random_held(dice, waters, 20)
            for made in (0, 1):
                self.assertLessEqual(stroke_weight(mine, held, made, (), (0,) * len(waters)), most[1 - made])
        small = (shaft_of(3, True), ((3, 0, 0, 5, 0), (1, 2, 0, 9, 1)), 1, None)
        self.assertEqual(greatest_weights(small), (10, 2))
        self.assertEqual(greatest_weights(small[:1] + (small[1][:1],) + small[2:]), (15, 0))


class Steam(unittest.TestCase):

    def test_steam_behind(self):
        mine = with_engine(MILL, (10, 4, (5, 8, 0)))
        for rest, steam, spent in itertools.product((*range(7), 10 ** 12), range(11), range(11)):
            if spent <= steam:
                stoke = (5, 8, 0)[rest % 3]
                self.assertEqual(steam_behind(mine, rest, steam, spent), min(10, steam - spent + stoke))
            self.assertEqual(steam_behind(FREE, rest, steam, spent), 0)

    def test_lone_rows(self):
        dice = dice_of("lone")
        missed = 0
        for _ in range(200):
            mine, many = random_mine(dice), dice.randint(0, 60)
            play = LonePlay(mine, many)
            self.assertTrue(same(lone_rows(mine, many), play.rows), (mine, many))
            self.assertTrue(same(missed_strokes(mine, many), tuple(play.missed)))
            self.assertTrue(same(weights_ahead(mine, many), tuple(LonePlay(mine, many, True).weights)))
            missed += len(play.missed) > 0
        self.assertGreater(missed, 50)

    def test_without_engine(self):
        self.assertEqual(lone_rows(FREE, 2), [(0, (0, 0), 0), (1, (0, 0), 0), (2, (3, 1), 0)])
        self.assertEqual((missed_strokes(FREE, 1000), first_lack(FREE, 1000)), ((), None))
        self.assertEqual(weights_ahead(FREE, 40), weights_ahead(MILL, 40))
        for thing in ((0, 0), (4, 9), (9, 9)):
            self.assertIs(is_lack(FREE, 10, thing), False)
        for many in (0, 4, 1000):
            for call in (least_room, least_more):
                with self.assertRaises(Unfit):
                    call(FREE, many)

    def test_no_rests(self):
        self.assertEqual(lone_rows(MILL, 0), [(0, (0, 0), 4)])
        self.assertEqual((missed_strokes(MILL, 0), weights_ahead(MILL, 0), first_lack(MILL, 0)), ((), (), None))
        self.assertEqual((least_room(MILL, 0), least_more(MILL, 0), is_lack(MILL, 0, (0, 0))), (4, 0, False))

    def test_stokes_come_round(self):
        mine = with_engine(((2, True, (0, 0, 0)), ((2, 0, 0, 1, 0),), 1, None), (100, 0, (1, 10, 0)))
        self.assertEqual([row[2] for row in lone_rows(mine, 7)], [0, 1, 11, 11, 12, 22, 22, 23])


class Lacks(unittest.TestCase):

    def test_lacks(self):
        dice = dice_of("lacks")
        kinds = {True: 0, False: 0}
        for _ in range(150):
            mine, many = random_mine(dice), dice.randint(0, 18)
            lacks = lacks_by_hand(mine, many)
            found = first_lack(mine, many)
            self.assertTrue(same(found, min(lacks, default=None)), (mine, many))
            for thing in itertools.product(range(-2, many + 2), range(-2, many + 2)):
                self.assertIs(is_lack(mine, many, thing), thing in lacks, (mine, many, thing))
            # There is none exactly if no stroke is missed.
            self.assertIs(found is None, missed_strokes(mine, many) == ())
            kinds[found is None] += 1
        self.assertGreater(min(kinds.values()), 30)

    def test_things_that_are_no_lack(self):
        self.assertIs(is_lack(MILL, 10, (4, 9)), True)
        self.assertIs(is_lack(listed(MILL), 10, (4, 9)), True)
        for thing in [[4, 9], (9, 4), (4, 10), (4, True), (False, 9), (4,), (4, 9, 0), (4, None), "49", (4, 10 ** 20), (-6, 9),
                      deep_thing(100), *[thing for thing in ODD_THINGS if thing not in ((1, 2),)]]:
            self.assertIs(is_lack(MILL, 10, thing), False, thing)
        for thing in spoilt((4, 9)):
            good = type(thing) is tuple and len(thing) == 2 and all([type(rest) is int for rest in thing])
            good = good and thing in lacks_by_hand(MILL, 10)
            self.assertIs(is_lack(MILL, 10, thing), good, thing)
        heavy = with_engine(MILL, (0, 0, (0,)))
        self.assertIs(is_lack(heavy, 9, (True, 4)), False)
        self.assertIs(is_lack(heavy, 9, (1, 4)), True)
        self.assertIs(is_lack(heavy, 4, (1, 4)), False)

    def test_begin_counts_from_rest_0_only(self):
        # Ahead of later rests there can be as much steam as there is room.
        mine = with_engine(MILL, (9, 0, (0,)))
        lacks = lacks_by_hand(mine, 4)
        self.assertIn((0, 2), lacks)
        self.assertNotIn((1, 2), lacks)
        self.assertEqual(first_lack(mine, 4), (0, 2))

    def test_enough_at_all_times(self):
        dice = dice_of("enough")
        for _ in range(60):
            mine = random_mine(dice)
            most = max(greatest_weights(mine))
            fed = with_engine(mine, (most + dice.randint(0, 3), most, (most, most + 2)))
            self.assertEqual((missed_strokes(fed, 60), first_lack(fed, 60)), ((), None))


class Remedies(unittest.TestCase):

    def test_least_room(self):
        dice = dice_of("least room")
        kinds = {}
        for _ in range(120):
            mine, many = random_mine(dice), dice.randint(0, 25)
            if mine[3] is None:
                continue
            room, begin, stokes = mine[3]
            good = [own for own in range(begin, 300)
                    if LonePlay(with_engine(mine, (own, begin, stokes)), many).missed == []]
            found = least_room(mine, many)
            self.assertTrue(same(found, min(good, default=None)), (mine, many))
            kind = "none" if found is None else "begin" if found == begin else "less" if found < room else "more"
            kinds[kind] = kinds.get(kind, 0) + 1
        self.assertGreater(min(kinds.get(kind, 0) for kind in ("none", "begin", "less", "more")), 2, kinds)
        self.assertEqual(least_room(MILL, 10), 11)

    def test_least_more(self):
        dice = dice_of("least more")
        kinds = {}
        for _ in range(200):
            mine, many = random_mine(dice), dice.randint(0, 25)
            if mine[3] is None:
                continue
            room, begin, stokes = mine[3]
            good = [more for more in range(120)
                    if LonePlay(with_engine(mine, (room, begin, tuple([own + more for own in stokes]))), many).missed == []]
            found = least_more(mine, many)
            self.assertTrue(same(found, min(good, default=None)), (mine, many))
            kind = "none" if found is None else min(found, 2)
            kinds[kind] = kinds.get(kind, 0) + 1
        for kind in ("none", 0, 1, 2):
            self.assertGreater(kinds.get(kind, 0), 0, kinds)

    def test_none(self):
        heavy = with_engine(MILL, (7, 7, (100,)))
        self.assertEqual((least_more(heavy, 4), least_more(heavy, 5)), (0, None))
        self.assertEqual(least_room(heavy, 5), 8)
        slow = with_engine(MILL, (100, 0, (0,)))
        self.assertEqual((least_room(slow, 2), least_room(slow, 3), least_more(slow, 3)), (0, None, 1))

    def test_great_numbers(self):
        great = tuple([(level * 5, 10 ** 6, 10 ** 6, 10 ** 6, level % 2) for level in range(8, 0, -1)])
        mine = (shaft_of(40, True), great, 10 ** 6, (10 ** 6, 10 ** 6, (10 ** 6, 0, 5)))
        rows = LonePlay(mine, 200)
        self.assertEqual(lone_rows(mine, 200), rows.rows)
        fed = with_engine(mine, (least_room(with_engine(mine, (10 ** 15, 10 ** 15, (0,))), 50), 10 ** 15, (0,)))
        self.assertEqual(missed_strokes(fed, 50), ())

    def test_a_thousand_rests(self):
        for engine in ((10, 4, (5, 8)), (11, 4, (5, 8, 6)), (40, 40, (7, 7))):
            mine = with_engine(MILL, engine)
            play = LonePlay(mine, 1000)
            self.assertEqual(missed_strokes(mine, 1000), tuple(play.missed))
            self.assertIs(first_lack(mine, 1000) is None, play.missed == [])
            for found, make in ((least_room(mine, 1000), lambda own: (own, *engine[1:])),
                                (least_more(mine, 1000), lambda own: (*engine[:2], tuple([one + own for one in engine[2]])))):
                if found is not None:
                    self.assertEqual(LonePlay(with_engine(mine, make(found)), 1000).missed, [])
                    if make(found)[0] > engine[1] and found > 0:
                        self.assertNotEqual(LonePlay(with_engine(mine, make(found - 1)), 1000).missed, [])


class Manners(unittest.TestCase):

    def test_manners(self):
        held = (3, 4)
        for mine in (MILL, FREE):
            told = {"mine": mine, "held": held, "made": 4}
            check_manners(self, stroke_weight, {**told, "loose": (0,), "leaks": (0, 1)})
            check_manners(self, is_stroke_made, {**told, "steam": 7, "loose": (), "leaks": (0, 1)})
            check_manners(self, greatest_weights, {"mine": mine})
            check_manners(self, steam_behind, {"mine": mine, "rest": 1, "steam": 9, "spent": 3})
            for call in (lone_rows, missed_strokes, weights_ahead, first_lack, least_room, least_more):
                check_manners(self, call, {"mine": mine, "many": 12})
            check_manners(self, is_lack, {"mine": mine, "many": 12, "thing": (4, 9)}, ("thing",))


if __name__ == "__main__":
    unittest.main()
