"""[12]: waters."""

import itertools
import unittest

from helpers import (
    ODD_THINGS, WaterPlay, check_manners, deep_thing, dice_of, is_held_by_hand, listed, plain_rows, random_held,
    random_waters, same, spoilt, wet_by_hand)
from manrods.errors import NoPlace
from manrods.waters import (
    adit_row, behind_rest, behind_swing, brings, drowned_levels, dry_held, held_rows, is_held, is_waters, way_out)

PIT = ((6, 0, 2, 3, 1), (4, 5, 1, 4, 0), (2, 6, 2, 4, 1))


def is_waters_by_hand(deep, thing):
    if type(thing) is not tuple or not thing:
        return False
    last = None
    for cistern in thing:
        if type(cistern) is not tuple or len(cistern) != 5 or any([type(part) is not int for part in cistern]):
            return False
        level, room, spring, measure, rod = cistern
        if min(room, spring) < 0 or measure < 1 or rod not in (0, 1) or not 1 <= level <= deep:
            return False
        if last is None and level != deep or last is not None and level >= last:
            return False
        last = level
    return True


def random_case(dice, last=8):
    deep = dice.randint(2, 9)
    waters = random_waters(dice, deep, 6, last)
    loose = tuple([at for at in range(len(waters)) if dice.random() < 0.2])
    leaks = tuple([dice.randint(0, last) if dice.random() < 0.3 else 0 for _ in waters])
    return waters, random_held(dice, waters, 2 * last), loose, leaks


class Things(unittest.TestCase):

    def test_waters(self):
        good = [
            (2, ((2, 0, 0, 1, 0),)), (2, ((2, 0, 0, 1, 1), (1, 0, 0, 1, 0))), (6, PIT), (40, ((40, 10 ** 30, 10 ** 30, 10 ** 30, 0),)),
            (9, tuple([(level, 5, 5, 5, level % 2) for level in range(9, 0, -1)]))]
        for deep, waters in good:
            self.assertIs(is_waters(deep, waters), True)
            self.assertIs(is_waters(deep, listed(waters)), False)
            self.assertIs(is_waters(deep, (list(waters[0]), *waters[1:])), False)
            self.assertIs(is_waters(deep + 1, waters), False)
            self.assertIs(is_waters(deep - 1, waters), False)

    def test_no_waters(self):
        for thing in [*ODD_THINGS, deep_thing(100)]:
            self.assertIs(is_waters(6, thing), False)
        bad = [
            ((6, 0, 2, 3, 1), (6, 5, 1, 4, 0)), ((6, 0, 2, 3, 1), (2, 5, 1, 4, 0), (4, 5, 1, 4, 0)), ((5, 0, 2, 3, 1),),
            ((6, 0, 2, 3, 1), (0, 5, 1, 4, 0)), ((6, 0, 2, 3, 2),), ((6, 0, 2, 0, 1),), ((6, 0, 2, 3, True),), ((6, 0, 2, 3, -1),),
            ((6, -1, 2, 3, 1),), ((6, 0, -1, 3, 1),), ((6, 0, 2, 3),), ((6, 0, 2, 3, 1, 0),), ((6, True, 2, 3, 1),), (True,)]
        for thing in bad:
            self.assertIs(is_waters(6, thing), False, thing)

    def test_spoilt_waters(self):
        found = 0
        for thing in spoilt(PIT):
            good = is_waters_by_hand(6, thing)
            self.assertIs(is_waters(6, thing), good, thing)
            found += good
        self.assertGreater(found, 5)

    def test_held(self):
        for thing in ((0, 0, 0), (10 ** 30, 5, 6), (1, 5, 0)):
            self.assertIs(is_held(PIT, thing), True)
            self.assertIs(is_held(listed(PIT), thing), True)
            self.assertIs(is_held(PIT, list(thing)), False)
        for thing in ((0, 6, 0), (0, 0, 7), (0, 5), (0, 0, 0, 0), (-1, 0, 0), (0, -1, 0), (True, 0, 0), (0, 0, False), (0, 0, None)):
            self.assertIs(is_held(PIT, thing), False, thing)
        for thing in [*ODD_THINGS, *spoilt((3, 5, 2)), deep_thing(100)]:
            self.assertIs(is_held(PIT, thing), is_held_by_hand(PIT, thing), thing)
        self.assertIs(is_held(PIT[:1], (10 ** 9,)), True)
        self.assertIs(is_held(PIT[:1], ()), False)

    def test_dry(self):
        self.assertTrue(same(dry_held(PIT), (0, 0, 0)))
        self.assertTrue(same(dry_held([list(PIT[0])]), (0,)))


class Rests(unittest.TestCase):

    def test_brings(self):
        dice = dice_of("brings")
        for _ in range(500):
            waters, held, loose, leaks = random_case(dice)
            made = dice.choice((0, 1, 2, 3, 10 ** 12, 10 ** 12 + 1))
            expected = WaterPlay(waters, held).lift(1 - made % 2, loose, leaks)
            self.assertTrue(same(brings(waters, held, made, loose, leaks), expected), (waters, held, made, loose, leaks))

    def test_leaks(self):
        for leak, brought in ((0, 3), (1, 2), (2, 1), (3, 0), (4, 0), (10 ** 6, 0)):
            self.assertEqual(brings(PIT, (9, 0, 0), 0, (), (leak, 0, 0)), (brought, 0, 0))
            self.assertEqual(brings(PIT, (9, 0, 0), 1, (), (leak, 0, 0)), (0, 0, 0))
            self.assertEqual(brings(PIT, (9, 0, 0), 0, (0,), (leak, 0, 0)), (0, 0, 0))
        # What leaks stays where it was.
        self.assertEqual(behind_rest(PIT, (9, 0, 0), 0, 0, True, (), (1, 0, 0)), ((7, 2, 0), 0))

    def test_all_at_once(self):
        waters = ((3, 9, 0, 5, 1), (2, 9, 0, 5, 1), (1, 9, 0, 5, 1))
        self.assertEqual(behind_rest(waters, (5, 0, 3), 0, 0, True, (), (0, 0, 0)), ((0, 5, 0), 3))
        self.assertEqual(behind_rest(waters, (5, 0, 3), 0, 1, True, (), (0, 0, 0)), ((5, 0, 3), 0))

    def test_behind_rest(self):
        dice = dice_of("behind rest")
        for _ in range(600):
            waters, held, loose, leaks = random_case(dice)
            rest, made, moved = dice.randint(0, 9), dice.randint(0, 9), dice.random() < 0.7
            play = WaterPlay(waters, held)
            play.rest(rest, made, moved, loose, leaks)
            found = behind_rest(waters, held, rest, made, moved, loose, leaks)
            self.assertTrue(same(found, (tuple(play.held), play.out)), (waters, held, rest, made, moved, loose, leaks))
            self.assertEqual(sum(found[0]) + found[1], sum(held) + play.sprung)
            self.assertIs(is_held(waters, found[0]), True)

    def test_far_numbers(self):
        far = 10 ** 12
        self.assertEqual(behind_rest(PIT, (far, 0, 0), far + 1, far, True, (), (0, 0, 0)), ((far - 1, 4, 2), 0))

    def test_spills(self):
        waters = ((4, 0, 0, 1, 0), (3, 1, 0, 1, 0), (2, 2, 0, 1, 0), (1, 3, 9, 9, 0))
        none = (0, 0, 0, 0)
        self.assertEqual(behind_rest(waters, none, 1, 1, False, (), none), ((3, 1, 2, 3), 0))
        self.assertEqual(behind_rest(waters, (5, 1, 2, 3), 0, 0, True, (), none), ((5, 1, 2, 3), 0))
        # The sump never spills, whatever its room.
        self.assertEqual(behind_rest(((2, 0, 7, 1, 0),), (50,), 1, 1, False, (), (0,)), ((57,), 0))

    def test_rest_and_made(self):
        # Springs hang on the rest, the rod that rises on made.
        for rest, made in itertools.product(range(4), range(4)):
            held, came_out = behind_rest(PIT, (3, 3, 3), rest, made, True, (), (0, 0, 0))
            sprung = 5 if rest % 2 else 0
            self.assertEqual(sum(held) + came_out, 9 + sprung)
            self.assertEqual(came_out, 3 if made % 2 == 0 else 0)


class Plain(unittest.TestCase):

    def test_rows(self):
        dice = dice_of("rows")
        for _ in range(80):
            waters, held, _, _ = random_case(dice)
            many = dice.randint(0, 40)
            rows, outs = plain_rows(waters, held, many)
            self.assertTrue(same(held_rows(waters, held, many), rows))
            steps = tuple([two - one for one, two in zip(outs, outs[1:])])
            self.assertTrue(same(adit_row(waters, held, many), steps))
            springs = sum([cistern[2] for cistern in waters])
            self.assertEqual(sum(rows[-1]) + outs[-1], sum(held) + springs * (many // 2))

    def test_no_rests(self):
        self.assertTrue(same(held_rows(PIT, [1, 2, 3], 0), [(1, 2, 3)]))
        self.assertTrue(same(adit_row(PIT, (1, 2, 3), 0), ()))

    def test_long_rows(self):
        rows, outs = plain_rows(PIT, (0, 0, 0), 1000)
        self.assertEqual(held_rows(PIT, (0, 0, 0), 1000), rows)
        self.assertEqual(sum(adit_row(PIT, (0, 0, 0), 1000)), outs[-1])

    def test_behind_swing(self):
        dice = dice_of("swing")
        for _ in range(200):
            waters, held, _, _ = random_case(dice)
            rows, outs = plain_rows(waters, held, 2)
            self.assertTrue(same(behind_swing(waters, held), (rows[2], outs[2])))

    def test_more_held_is_never_less(self):
        dice = dice_of("more held")
        for _ in range(80):
            waters, held, _, _ = random_case(dice)
            more = tuple([dice.randint(amount, max(amount, amount + 3 if at == 0 else waters[at][1]))
                          for at, amount in enumerate(held)])
            for one, two in zip(held_rows(waters, held, 20), held_rows(waters, more, 20)):
                self.assertTrue(all([a <= b for a, b in zip(one, two)]))


class Levels(unittest.TestCase):

    def test_drowned_levels(self):
        for deep, per in itertools.product((2, 5, 40), (1, 2, 7, 10 ** 6)):
            for amount in [*range(60), per * deep - 1, per * deep, per * deep + 1, per * (deep - 1), 10 ** 12]:
                found = drowned_levels(deep, per, (amount, 9, 9))
                self.assertTrue(same(found, tuple(wet_by_hand(deep, per, (amount,)))), (deep, per, amount))

    def test_way_out(self):
        dice = dice_of("way out")
        for _ in range(150):
            waters = random_waters(dice, dice.randint(2, 9), 6, 8)
            for number in range(len(waters)):
                # One CISTERN alone springs one unit, and only once: at rest 1.
                wide = tuple([(level, 9, 0, 9, rod) for level, _, _, _, rod in waters])
                play = WaterPlay(wide, [0] * len(waters))
                rest = 1
                play.held[number] = 1
                while play.out == 0:
                    rest += 1
                    play.rest(rest, rest)
                    play.held = [min(1, amount) for amount in play.held]
                self.assertEqual(way_out(waters, number), rest)
                alone = tuple([(*cistern[:2], int(at == number), *cistern[3:]) for at, cistern in enumerate(wide)])
                row = adit_row(alone, (0,) * len(alone), 40)
                self.assertEqual([at for at, amount in enumerate(row) if amount][0], rest)

    def test_no_place(self):
        for number in (3, 4, -1, -3, 10 ** 12):
            with self.assertRaises(NoPlace) as caught:
                way_out(PIT, number)
            self.assertEqual(vars(caught.exception), {"place": number})


class Manners(unittest.TestCase):

    def test_manners(self):
        held = (2, 1, 5)
        check_manners(self, is_waters, {"deep": 6, "thing": PIT}, ("thing",))
        check_manners(self, is_held, {"waters": PIT, "thing": held}, ("thing",))
        check_manners(self, dry_held, {"waters": PIT})
        check_manners(self, brings, {"waters": PIT, "held": held, "made": 4, "loose": (2,), "leaks": (1, 0, 0)})
        for moved in (True, False):
            check_manners(self, behind_rest, {
                "waters": PIT, "held": held, "rest": 7, "made": 6, "moved": moved, "loose": (0,), "leaks": (0, 0, 1)})
        check_manners(self, held_rows, {"waters": PIT, "held": held, "many": 5})
        check_manners(self, adit_row, {"waters": PIT, "held": held, "many": 5})
        check_manners(self, behind_swing, {"waters": PIT, "held": held})
        check_manners(self, drowned_levels, {"deep": 6, "per": 2, "held": held})
        for number in (0, 2, 3, -1):
            check_manners(self, way_out, {"waters": PIT, "number": number})


if __name__ == "__main__":
    unittest.main()
