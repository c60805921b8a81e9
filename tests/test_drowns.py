"""[15]: levels that drown."""

import itertools
import time
import unittest

from helpers import (
    ODD_THINGS, WaterPlay, check_manners, deep_thing, dice_of, is_held_by_hand, listed, outcome, plain_rows, random_held,
    random_waters, same, spoilt)
from manrods.drowns import (
    cheapest_lift, dam_of, driest, drown_rest, drown_rests, is_dam, lift_for, room_for, spring_for)
from manrods.errors import CanNot, NoPlace

MINE = ((3, 0, 2, 3, 0), (1, 4, 1, 2, 1))
BETTER = (MINE[0], (1, 4, 1, 3, 1))
ROOM, SPRING, MEASURE = 1, 2, 3


def with_value(waters, number, place, value):
    """WATERS with this value at this place of a CISTERN."""
    cisterns = [list(cistern) for cistern in waters]
    cisterns[number][place] = value
    return tuple([tuple(cistern) for cistern in cisterns])


def drowning_rest(waters, least, many=500):
    """The first of so many rests behind which the sump holds least; None without. They are to settle it."""
    rows, _ = plain_rows(waters, (0,) * len(waters), many)
    for rest, held in enumerate(rows):
        if held[0] >= least:
            return rest
    # It is settled only if the last swing changed nothing.
    assert rows[-1] == rows[-3], (waters, least)
    return None


def is_dry(waters, least):
    """Whether the sump never holds least: swing by swing until one changes nothing."""
    play, last, rest = WaterPlay(waters, (0,) * len(waters)), None, 0
    while play.held != last:
        last = list(play.held)
        for _ in range(2):
            play.rest(rest, rest)
            rest += 1
            if play.held[0] >= least:
                return False
    return True


def least_of(waters, per, level):
    """What the sump holds if level is drowned."""
    return per * (waters[0][0] - level + 1)


def is_dam_by_hand(waters, per, level, thing):
    if not is_held_by_hand(waters, thing):
        return False
    rows, _ = plain_rows(waters, thing, 2)
    if any([held[0] >= least_of(waters, per, level) for held in rows]):
        return False
    return all([new <= old for new, old in zip(rows[2], thing)])


def random_mine(dice, last=4, most=4):
    deep = dice.randint(2, 5)
    waters = random_waters(dice, deep, most, last)
    return waters, dice.randint(1, 9), dice.randint(1, deep)


class Resting(unittest.TestCase):

    def test_drown_rest(self):
        dice = dice_of("drown rest")
        kinds = {True: 0, False: 0}
        for _ in range(400):
            waters, per, level = random_mine(dice, dice.choice((2, 4, 9)), 5)
            deep = waters[0][0]
            own = [drowning_rest(waters, least_of(waters, per, one)) for one in range(1, deep + 1)]
            self.assertTrue(same(drown_rests(waters, per), tuple(own)), (waters, per))
            self.assertEqual(drown_rest(waters, per, level), own[level - 1])
            never = [one for one in range(1, deep + 1) if own[one - 1] is None]
            self.assertEqual(driest(waters, per), max(never, default=0))
            kinds[own[level - 1] is None] += 1
        self.assertGreater(min(kinds.values()), 60)

    def test_the_sump_never_rises_in_even_rests(self):
        dice = dice_of("even rests")
        for _ in range(300):
            waters, _, _ = random_mine(dice, 6, 5)
            rows, _ = plain_rows(waters, random_held(dice, waters, 9), 21)
            for ahead, behind in zip(rows[::2], rows[1::2]):
                self.assertLessEqual(behind[0], ahead[0])
        self.assertEqual(drown_rests(((2, 0, 1, 3, 1), (1, 0, 0, 1, 0)), 1), (4, 2))

    def test_never_ahead_of_the_bound(self):
        # Just at the bound, and one below it.
        for per in range(1, 8):
            waters = ((2, 0, per, per, 1),)
            self.assertEqual(drown_rests(waters, per), (None, 2))
            self.assertEqual(drown_rests(waters, per + 1), (None, None))
            self.assertEqual(driest(waters, per), 1)
            self.assertEqual(driest(waters, per + 1), 2)

    def test_all_drown(self):
        waters = ((2, 0, 9, 1, 0),)
        self.assertEqual((driest(waters, 4), drown_rests(waters, 4)), (0, (2, 2)))
        self.assertEqual((driest(((2, 0, 0, 1, 0),), 1), drown_rests(((2, 0, 0, 1, 0),), 1)), (2, (None, None)))


class Dams(unittest.TestCase):

    def test_dams_by_all(self):
        dice = dice_of("dams")
        kinds = {True: 0, False: 0}
        for _ in range(150):
            waters, per, level = random_mine(dice, 3, 3)
            least = least_of(waters, per, level)
            rooms = [range(min(least, 15) + 1), *[range(cistern[1] + 1) for cistern in waters[1:]]]
            dams = [held for held in itertools.product(*rooms) if is_dam_by_hand(waters, per, level, held)]
            for held in itertools.product(*rooms):
                self.assertIs(is_dam(waters, per, level, held), held in dams)
            found = outcome(dam_of, waters, per, level)
            kinds[found[0] == "value"] += 1
            if found[0] == "error":
                self.assertEqual((found[1], dams if least <= 15 else []), ("CanNot", []))
                self.assertIsNotNone(drown_rest(waters, per, level))
                continue
            self.assertIsNone(drown_rest(waters, per, level))
            self.assertIn(found[1], dams)
            for held in dams:
                self.assertTrue(all([one <= two for one, two in zip(found[1], held)]))
            self.assertTrue(same(found[1], plain_rows(waters, (0,) * len(waters), 400)[0][-1]))
        self.assertGreater(min(kinds.values()), 20)

    def test_deep_dams(self):
        dice = dice_of("deep dams")
        kinds = {True: 0, False: 0}
        for _ in range(300):
            waters, per, level = random_mine(dice, 9, 5)
            held = random_held(dice, waters, 20)
            good = is_dam_by_hand(waters, per, level, held)
            self.assertIs(is_dam(waters, per, level, held), good)
            kinds[good] += 1
        self.assertGreater(min(kinds.values()), 5)

    def test_things_that_are_no_dam(self):
        self.assertIs(is_dam(BETTER, 4, 3, (2, 3)), True)
        self.assertIs(is_dam(listed(BETTER), 4, 3, (2, 3)), True)
        for thing in [*spoilt((2, 3)), *ODD_THINGS, deep_thing(100), (4, 3), (3, 5), (10 ** 20, 3)]:
            self.assertIs(is_dam(BETTER, 4, 3, thing), is_dam_by_hand(BETTER, 4, 3, thing), thing)
        # A DAM of a deeper level is one of a higher one, not the other way about.
        self.assertIs(is_dam(BETTER, 4, 2, (4, 4)), True)
        self.assertIs(is_dam(BETTER, 4, 3, (4, 4)), False)


class Remedies(unittest.TestCase):

    def test_lift_for(self):
        self.check_values(lift_for, MEASURE, range(1, 40), 60)

    def test_room_for(self):
        self.check_values(room_for, ROOM, range(40), 40)

    def check_values(self, call, place, values, told):
        """The least of values, of which the last ones are beyond all that matters, going through all."""
        dice, count = dice_of(call.__name__), 0
        for _ in range(600):
            waters, per, level = random_mine(dice)
            least = least_of(waters, per, level)
            number = dice.randrange(len(waters))
            if place == ROOM and number == 0:
                continue
            good = [value for value in values if is_dry(with_value(waters, number, place, value), least)]
            found = call(waters, per, level, number)
            self.assertEqual(found, min(good, default=None), (waters, per, level, number))
            count += found not in (None, values[0])
            self.assertEqual(good, [] if found is None else list(range(found, values[-1] + 1)))
        self.assertGreater(count, told)

    def test_spring_for(self):
        dice = dice_of("spring for")
        count = 0
        for _ in range(250):
            waters, per, level = random_mine(dice)
            least = least_of(waters, per, level)
            number = dice.randrange(len(waters))
            good = [value for value in range(80) if is_dry(with_value(waters, number, SPRING, value), least)]
            found = spring_for(waters, per, level, number)
            self.assertEqual(found, max(good, default=None), (waters, per, level, number))
            self.assertEqual(good, [] if found is None else list(range(found + 1)))
            count += found not in (None, 0)
        self.assertGreater(count, 100)

    def test_cheapest_lift(self):
        dice = dice_of("cheapest lift")
        kinds = {}
        for _ in range(250):
            waters, per, level = random_mine(dice)
            least = least_of(waters, per, level)
            good = []
            for number, cistern in enumerate(waters):
                fit = [more for more in range(60) if is_dry(with_value(waters, number, MEASURE, cistern[3] + more), least)]
                good.extend([(more, number) for more in fit[:1]])
            found = cheapest_lift(waters, per, level)
            self.assertTrue(same(found, min(good, default=None)), (waters, per, level))
            kinds[found] = True
        for kind in (None, (0, 0), (1, 0), (1, 1), (2, 0)):
            self.assertIn(kind, kinds)

    def test_the_sump_alone(self):
        # Its lift may need as much as drowns the level, less 1.
        waters = ((40, 0, 100, 1, 0),)
        for per, level in ((1000, 1), (1000, 40), (101, 40)):
            self.assertEqual((lift_for(waters, per, level, 0), spring_for(waters, per, level, 0)), (100, 1))
        self.assertEqual((lift_for(waters, 100, 40, 0), cheapest_lift(waters, 100, 40)), (None, None))
        self.assertEqual(spring_for(((40, 0, 5, 100, 0),), 100, 40, 0), 99)
        self.assertEqual(spring_for(((40, 0, 5, 100, 0),), 101, 40, 0), 100)
        self.assertEqual(cheapest_lift(waters, 1000, 3), (99, 0))


class Places(unittest.TestCase):

    def test_no_level(self):
        for level in (0, 4, -1, 10 ** 6):
            for call, more in ((drown_rest, ()), (dam_of, ()), (is_dam, ((2, 3),)), (is_dam, (None,)), (lift_for, (0,)), (lift_for, (7,)),
                               (cheapest_lift, ()), (spring_for, (0,)), (spring_for, (-1,)), (room_for, (1,)), (room_for, (0,))):
                with self.assertRaises(NoPlace) as caught:
                    call(MINE, 4, level, *more)
                self.assertEqual(vars(caught.exception), {"place": level}, call.__name__)

    def test_no_number(self):
        for number in (2, -1, 9, 10 ** 6):
            for call in (lift_for, spring_for, room_for):
                with self.assertRaises(NoPlace) as caught:
                    call(MINE, 4, 3, number)
                self.assertEqual(vars(caught.exception), {"place": number})
        with self.assertRaises(NoPlace) as caught:
            room_for(MINE, 4, 3, 0)
        self.assertEqual(vars(caught.exception), {"place": 0})

    def test_cannot(self):
        for level in (1, 2, 3):
            with self.assertRaises(CanNot):
                dam_of(MINE, 4, level)


class Great(unittest.TestCase):

    def test_in_a_moment(self):
        dice = dice_of("great")
        begun = time.process_time()
        for _ in range(12):
            waters = tuple([
                (level, dice.randint(0, 100), dice.randint(0, 3) if dice.random() < 0.5 else 0, dice.randint(1, 100),
                 dice.randint(0, 1)) for level in (40, 30, 20, 10, 1)])
            rests = drown_rests(waters, 1000)
            for level in (1, 40):
                self.assertEqual(drown_rest(waters, 1000, level), rests[level - 1])
                for number in range(5):
                    lift_for(waters, 1000, level, number)
                    spring_for(waters, 1000, level, number)
                    room_for(waters, 1000, level, max(1, number))
                cheapest_lift(waters, 1000, level)
        self.assertLess(time.process_time() - begun, 60)

    def test_slow_growth(self):
        # The sump gains 1 a swing while all above it holds the same: 40,000 swings.
        waters = ((40, 0, 1, 100, 1), (9, 0, 0, 100, 0))
        self.assertEqual(drown_rest(waters, 1000, 1), 80000)
        self.assertEqual(drown_rest(((40, 0, 5, 4, 0),), 1000, 1), 2 * (40000 - 4))
        self.assertEqual((lift_for(waters, 1000, 1, 0), room_for(waters, 1000, 1, 1)), (None, 1))
        self.assertEqual(spring_for(waters, 1000, 1, 0), 0)

    def test_far_rests(self):
        dice = dice_of("far rests")
        for _ in range(40):
            waters, _, _ = random_mine(dice, 9, 5)
            for per, level in ((200, 1), (500, 2)):
                own = drown_rest(waters, per, level)
                if own is not None and own <= 4000:
                    rows, _ = plain_rows(waters, (0,) * len(waters), own)
                    least = least_of(waters, per, level)
                    self.assertGreaterEqual(rows[own][0], least)
                    self.assertLess(max([held[0] for held in rows[:own]]), least)


class Manners(unittest.TestCase):

    def test_manners(self):
        for waters in (MINE, BETTER):
            check_manners(self, drown_rests, {"waters": waters, "per": 4})
            check_manners(self, driest, {"waters": waters, "per": 4})
            for level in (0, 1, 3, 4):
                told = {"waters": waters, "per": 4, "level": level}
                for call in (drown_rest, dam_of, cheapest_lift):
                    check_manners(self, call, told)
                check_manners(self, is_dam, {**told, "thing": (2, 3)}, ("thing",))
                for call, number in itertools.product((lift_for, spring_for, room_for), (0, 1, 2)):
                    check_manners(self, call, {**told, "number": number})


if __name__ == "__main__":
    unittest.main()
