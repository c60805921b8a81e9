"""[9]: men at a rest."""

import itertools
import unittest

from helpers import ODD_THINGS, check_manners, deep_thing, dice_of, listed, same, shaft_of, spoilt
from mineplay import GRASS, LOST, RestPlay, aside, random_crowd, rod
from manrods.errors import NoPlace
from manrods.rests import barred, carried, crowd_behind, first_crowd, is_crowd, ready_crowd, soaked, wanted
from manrods.shafts import faced_level, facing_platform, goes_with, level_behind, platforms

NARROW, WIDE = (4, False, (0, 1, 1, 1, 2)), (4, True, (0, 1, 1, 1, 2))
SHAFTS = (NARROW, WIDE)


def own_ready(shaft, made, fresh, crowd, broken):
    return RestPlay(shaft, made, fresh, crowd, broken).one_and_two().three_and_four().crowd()


def own_behind(shaft, made, fresh, crowd, broken, moved, top):
    men, aims = [list(part) for part in own_ready(shaft, made, fresh, crowd, broken)]
    for man, place in enumerate(men):
        if place[0] == "rod" and moved:
            men[man] = rod(place[1], level_behind(place[1], place[2], made))
        if men[man][0] in ("rod", "aside") and men[man][-1] >= top:
            men[man], aims[man] = LOST, None
    return (tuple(men), tuple(aims))


def random_case(dice):
    deep = dice.choice((2, 3, 4, 6))
    shaft = (deep, dice.random() < 0.5, tuple([dice.randint(0, 2) for _ in range(deep + 1)]))
    made = dice.choice((0, 1, 6, 7))
    crowd = random_crowd(dice, shaft, made, dice.randint(0, 10))
    broken = tuple([platform for platform in platforms(shaft) if dice.random() < 0.15])
    return shaft, made, crowd, broken


class Crowds(unittest.TestCase):

    def test_crowds(self):
        good = [
            ((), ()), ((GRASS,), (None,)), ((LOST,), (None,)), ((GRASS,), ((0, 0),)), ((aside(4),) * 2, (None, (0, 10 ** 40))),
            ((rod(0, 0), rod(1, 4), rod(1, 1)), ((0, 0), (4, 3), (2, 2))), ((GRASS,) * 30, ((3, 7),) * 30),
            ((LOST,) * 30, (None,) * 30), ((aside(1), rod(0, 1), rod(1, 1)), ((1, 0), (1, 0), (1, 0)))]
        for crowd in good:
            for shaft in SHAFTS:
                self.assertIs(is_crowd(crowd, shaft, 2), True, crowd)
                self.assertIs(is_crowd(crowd, listed(shaft), 10 ** 12), True, crowd)
                for thing in (list(crowd), (list(crowd[0]), crowd[1]), (crowd[0], list(crowd[1]))):
                    self.assertIs(is_crowd(thing, shaft, 2), False, thing)

    def test_rods_face_no_such_level(self):
        for shaft in SHAFTS:
            for made in (0, 1, 8, 9):
                faced = [(platform[0], faced_level(platform, made)) for platform in platforms(shaft)]
                for number, level in itertools.product(range(-1, 3), range(-2, 7)):
                    crowd = ((rod(number, level),), ((0, 0),))
                    self.assertIs(is_crowd(crowd, shaft, made), (number, level) in faced, (crowd, made))

    def test_no_crowds(self):
        aim = (0, 0)
        bad = [
            ((rod(0, 2),), (None,)), ((LOST,), (aim,)), ((rod(0, 2),) * 2, (aim, aim)), ((aside(4),) * 3, (None,) * 3),
            ((aside(1), GRASS, aside(1)), (None,) * 3), ((aside(0),), (None,)), ((aside(5),), (None,)), ((aside(-1),), (None,)),
            ((GRASS,), ()), ((), (None,)), ((GRASS,), (None, None)), ((GRASS,), ((5, 0),)), ((GRASS,), ((-1, 0),)),
            ((GRASS,), ((1, -1),)), ((GRASS,), ((True, 0),)), ((GRASS,), ((1, False),)), ((GRASS,), ((1,),)),
            ((GRASS,), ((1, 0, 0),)), ((GRASS,), ([1, 0],)), ((GRASS,), (1,)), ((["grass"],), (None,)), (("grass",), (None,)),
            ((("grass", 0),), (None,)), ((("aside", 1, 1),), (None,)), ((("aside",),), (None,)), ((("rod", 1),), (aim,)),
            ((("rod", True, 1),), (aim,)), ((("rod", 1, True),), (aim,)), ((("aside", True),), (None,)),
            ((("rod", 1, 1, 1),), (aim,)), ((("lost", 1),), (None,)), ((None,), (None,)), (((),), (None,)),
            ((["rod", 0, 1],), (aim,)), ((("wide", 1),), (None,)), (((("grass",),),), (None,)), ((("GRASS",),), (None,)),
            deep_thing(100)]
        odd = [thing for thing in ODD_THINGS if not same(thing, ((), ()))]
        for thing in bad + odd:
            for shaft in SHAFTS:
                self.assertIs(is_crowd(thing, shaft, 2), False, thing)

    def test_spoilt_crowds(self):
        crowd = ((aside(4), rod(0, 2), rod(1, 2), LOST, GRASS), ((0, 3), (4, 0), (2, 9), None, None))
        self.assertTrue(is_crowd(crowd, NARROW, 2))
        good = []
        for thing in spoilt(crowd):
            if is_crowd(thing, NARROW, 2):
                good.append(thing)
        for thing in good:
            # Only a far ready, or None for the AIM of one who does not ride, is no fault.
            men, aims = thing
            self.assertTrue(same(men, crowd[0]), thing)
            self.assertTrue(same(aims, (None, *crowd[1][1:])) or any([10 ** 20 == aim[1] for aim in aims if aim]), thing)
        self.assertEqual(len(good), 4)

    def test_first_crowd(self):
        self.assertEqual(first_crowd(()), ((), ()))
        book = ((4, 0, 3), (0, 4, 10 ** 6), (1, 2, 0))
        expected = ((aside(4), GRASS, aside(1)), ((0, 3), (4, 10 ** 6), (2, 0)))
        self.assertTrue(same(first_crowd(book), expected))
        self.assertTrue(is_crowd(expected, NARROW, 0))


class Wants(unittest.TestCase):

    def test_wanted(self):
        dice = dice_of("wanted")
        for _ in range(300):
            shaft, made, crowd, _ = random_case(dice)
            own = RestPlay(shaft, made, True, crowd, ())
            for man in range(len(crowd[0])):
                self.assertTrue(same(wanted(shaft, made, crowd, man), own.want(man)))

    def test_ready_counts_only_beside_the_rods(self):
        crowd = ((rod(0, 2), aside(2), GRASS), ((0, 9), (0, 9), (4, 9)))
        for shaft in SHAFTS:
            self.assertEqual([wanted(shaft, 8, crowd, man) for man in range(3)], [(1, 2), None, None])
            self.assertEqual([wanted(shaft, 10, crowd, man) for man in range(3)], [(1, 2), (1, 2), (0, 0)])
            odd = ((rod(0, 2), aside(2), GRASS), ((0, 9), (0, 9), (4, 9)))
            self.assertEqual([wanted(shaft, 9, odd, man) for man in range(3)], [(0, 1), (0, 1), (1, 1)])

    def test_none_is_wanted(self):
        crowd = ((LOST, GRASS, aside(2), GRASS, aside(3), rod(0, 1)), (None, None, None, (0, 0), (3, 0), (1, 0)))
        for man in range(6):
            self.assertIsNone(wanted(NARROW, 4, crowd, man))

    def test_no_place(self):
        crowd = ((GRASS, GRASS), (None, (2, 0)))
        for man in (-1, -2, 2, 3, 10 ** 12):
            with self.assertRaises(NoPlace) as caught:
                wanted(NARROW, 0, crowd, man)
            self.assertEqual(caught.exception.place, man)
        with self.assertRaises(NoPlace):
            wanted(NARROW, 0, ((), ()), 0)


class Steps(unittest.TestCase):

    def check_ready(self, shaft, made, fresh, crowd, broken, men, aims):
        self.assertTrue(is_crowd(crowd, shaft, made), crowd)
        found = ready_crowd(shaft, made, fresh, crowd, broken)
        self.assertTrue(same(found, (men, aims)), found)
        self.assertTrue(is_crowd(found, shaft, made))

    def test_one_broken_platforms(self):
        crowd = ((rod(0, 2), rod(1, 2), aside(1)), ((4, 0), (2, 0), None))
        for shaft in SHAFTS:
            self.check_ready(shaft, 2, True, crowd, ((0, 2),), (LOST, aside(2), aside(1)), (None,) * 3)
            self.check_ready(shaft, 2, True, crowd, ((1, 2),), (rod(0, 2), LOST, aside(1)), ((4, 0), None, None))
            # At an odd made it is another PLATFORM that faces this level.
            self.check_ready(shaft, 3, False, crowd, ((0, 2),), (rod(1, 2), aside(2), aside(1)), ((4, 0), None, None))
            self.check_ready(shaft, 3, True, crowd, ((0, 1),), (LOST, aside(2), aside(1)), (None,) * 3)

    def test_one_comes_ahead_of_stepping_off(self):
        crowd = ((rod(0, 2),), ((2, 0),))
        self.check_ready(WIDE, 2, True, crowd, ((0, 2),), (LOST,), (None,))

    def test_two_stepping_off(self):
        for shaft in SHAFTS:
            self.check_ready(shaft, 2, True, ((rod(0, 0),), ((0, 0),)), (), (GRASS,), (None,))
            self.check_ready(shaft, 2, True, ((rod(1, 4),), ((4, 0),)), (), (aside(4),), (None,))
            both = ((rod(0, 2), rod(1, 2)), ((2, 0), (2, 0)))
            # There is room for one at level 2: the other one stays where he is.
            self.check_ready(shaft, 2, True, both, (), (aside(2), rod(1, 2)), (None, (2, 0)))
            taken = ((aside(2), rod(0, 2)), (None, (2, 0)))
            self.check_ready(shaft, 2, True, taken, (), *taken)
            # Who boards at this rest leaves his room later than step 2.
            leaving = ((aside(2), rod(0, 2)), ((4, 0), (2, 0)))
            self.check_ready(shaft, 2, True, leaving, (), *leaving)

    def test_two_who_is_there_has_no_aim(self):
        crowd = ((GRASS, aside(3), aside(4)), ((0, 99), (3, 99), (3, 99)))
        self.check_ready(WIDE, 2, True, crowd, (), crowd[0], (None, None, (3, 99)))

    def test_three_crossing(self):
        crowd = ((rod(0, 2),), ((0, 99),))
        for shaft in SHAFTS:
            for fresh in (True, False):
                self.check_ready(shaft, 2, fresh, crowd, (), (rod(1, 2),), ((0, 99),))
                self.check_ready(shaft, 2, fresh, crowd, ((1, 2),), *crowd)
                self.check_ready(shaft, 3, fresh, crowd, (), *crowd)

    def test_three_behind_who_steps_off(self):
        crowd = ((rod(0, 2), rod(1, 2)), ((0, 0), (2, 0)))
        for shaft in SHAFTS:
            self.check_ready(shaft, 2, False, crowd, (), (rod(1, 2), aside(2)), ((0, 0), None))

    def test_three_changing_over(self):
        face = ((rod(0, 2), rod(1, 2)), ((0, 0), (4, 0)))
        turned = ((rod(0, 2), rod(1, 2)), ((0, 0), (0, 0)))
        stuck = ((rod(0, 2), rod(1, 2), aside(2)), ((0, 0), (2, 0), None))
        for crowd, fresh, over in (
                (face, True, True), (face, False, True), (turned, True, True), (turned, False, False),
                (stuck, True, True), (stuck, False, True)):
            men = (rod(1, 2), rod(0, 2), *crowd[0][2:]) if over else crowd[0]
            self.check_ready(WIDE, 2, fresh, crowd, (), men, crowd[1])
            self.check_ready(NARROW, 2, fresh, crowd, (), *crowd)

    def test_four_boarding(self):
        crowd = ((aside(4), aside(4), GRASS, GRASS), ((0, 2), (1, 2), (4, 3), (3, 2)))
        for shaft in SHAFTS:
            self.check_ready(shaft, 2, True, crowd, (), (rod(1, 4), aside(4), GRASS, rod(0, 0)), crowd[1])
            self.check_ready(shaft, 2, True, crowd, ((1, 4),), (aside(4), aside(4), GRASS, rod(0, 0)), crowd[1])
            self.check_ready(shaft, 3, True, crowd, (), (rod(0, 4), aside(4), rod(1, 0), GRASS), crowd[1])

    def test_four_behind_crossing(self):
        leaving = ((rod(0, 2), aside(2)), ((0, 0), (4, 0)))
        coming = ((rod(0, 2), aside(2)), ((0, 0), (1, 0)))
        off = ((rod(0, 2), GRASS, aside(2)), ((2, 0), None, (4, 0)))
        for shaft in SHAFTS:
            self.check_ready(shaft, 2, True, leaving, (), (rod(1, 2), rod(0, 2)), leaving[1])
            self.check_ready(shaft, 2, True, coming, (), (rod(1, 2), aside(2)), coming[1])
            self.check_ready(shaft, 2, True, off, (), *off)

    def test_five_carried(self):
        for made in (0, 1, 10 ** 6, 10 ** 6 + 1):
            for platform in platforms(NARROW):
                place = rod(platform[0], faced_level(platform, made))
                crowd = ((place, GRASS, LOST, aside(2)), ((0, 0), (1, 0), None, None))
                found = carried(made, crowd)
                behind = rod(platform[0], faced_level(platform, made + 1))
                self.assertTrue(same(found, ((behind, GRASS, LOST, aside(2)), crowd[1])))
                self.assertEqual(behind[2], place[2] + goes_with(platform, made))

    def test_six_soaked(self):
        crowd = ((GRASS, aside(1), aside(2), rod(0, 2), rod(1, 3), LOST, rod(0, 0)), ((4, 0), (0, 0), None) + ((0, 0),) * 2
                 + (None, (4, 0)))
        for top in range(1, 6):
            men, aims = soaked(crowd, top)
            for man, place in enumerate(crowd[0]):
                wet = place[0] in ("aside", "rod") and place[-1] >= top
                self.assertEqual(men[man], LOST if wet else place)
                self.assertEqual(aims[man], None if wet else crowd[1][man])

    def test_six_behind_the_stroke(self):
        crowd = ((rod(0, 2), rod(1, 3)), ((4, 0), (0, 0)))
        for shaft in SHAFTS:
            self.assertEqual(crowd_behind(shaft, 2, True, crowd, (), True, 3)[0], (LOST, rod(1, 2)))
            self.assertEqual(crowd_behind(shaft, 2, True, crowd, (), False, 3)[0], (rod(0, 2), LOST))
            self.assertEqual(crowd_behind(shaft, 2, True, crowd, (), True, 5)[0], (rod(0, 3), rod(1, 2)))

    def test_barred(self):
        face = ((rod(0, 2), rod(1, 2), aside(2)), ((0, 0), (4, 0), (0, 2)))
        turned = ((rod(0, 2), rod(1, 2)), ((0, 0), (0, 0)))
        for fresh in (True, False):
            self.assertEqual(barred(NARROW, 2, fresh, face, ()), (0, 1, 2))
            self.assertEqual(barred(WIDE, 2, fresh, face, ()), (2,))
            self.assertEqual(barred(NARROW, 2, fresh, turned, ()), (0,))
        # Who is changed over with against his will is barred.
        self.assertEqual(barred(WIDE, 2, True, turned, ()), (1,))
        self.assertEqual(barred(WIDE, 2, False, turned, ()), (0,))
        lone = ((aside(4), rod(0, 2), rod(0, 3)), ((0, 0), (0, 0), (3, 0)))
        self.assertEqual(barred(NARROW, 2, True, lone, ((1, 2), (1, 4))), (0, 1))
        # Who is lost at step 1, or has got where he wants at step 2, wants none.
        self.assertEqual(barred(NARROW, 2, True, lone, ((0, 2), (0, 3))), ())

    def test_against_own_rest(self):
        dice = dice_of("rests")
        for _ in range(700):
            shaft, made, crowd, broken = random_case(dice)
            self.assertTrue(is_crowd(crowd, shaft, made))
            fresh, moved, top = dice.random() < 0.5, dice.random() < 0.7, dice.randint(1, shaft[0] + 1)
            expected = own_ready(shaft, made, fresh, crowd, broken)
            self.assertTrue(same(ready_crowd(shaft, made, fresh, crowd, broken), expected), (shaft, made, fresh, crowd, broken))
            behind = crowd_behind(shaft, made, fresh, crowd, broken, moved, top)
            self.assertTrue(same(behind, own_behind(shaft, made, fresh, crowd, broken, moved, top)))
            self.assertTrue(is_crowd(behind, shaft, made + moved))
            early = RestPlay(shaft, made, fresh, crowd, broken).one_and_two()
            wants = [early.want(man) for man in range(len(crowd[0]))]
            on = {man: platform for platform, man in RestPlay(shaft, made, fresh, expected, broken).on().items()}
            held = tuple([man for man, want in enumerate(wants) if want is not None and on.get(man) != want])
            self.assertTrue(same(barred(shaft, made, fresh, crowd, broken), held))

    def test_guarantee_wide(self):
        """Who was carried towards his AIM is so again, or is there, whatever the others do."""
        dice = dice_of("wide")
        for _ in range(300):
            deep = dice.choice((3, 4, 6))
            shaft = shaft_of(deep, True, 2)
            crowd = random_crowd(dice, shaft, 0, 10)
            made, fresh, towards = 0, True, {}
            for _ in range(12):
                moved = dice.random() < 0.7
                ready = ready_crowd(shaft, made, fresh, crowd, ())
                behind = carried(made, ready) if moved else ready
                for man, place in enumerate(behind[0]):
                    aim = ready[1][man]
                    if place[0] != "rod":
                        towards[man] = False
                    elif moved:
                        was = abs(ready[0][man][2] - aim[0]) > abs(place[2] - aim[0])
                        self.assertTrue(was or not towards.get(man) or ready[0][man][2] == aim[0])
                        towards[man] = was
                crowd, made, fresh = behind, made + moved, moved

    def test_guarantee_narrow(self):
        shaft = shaft_of(6, False, 0)
        for made, level in itertools.product((0, 1), range(1, 6)):
            up, down = [facing_platform(shaft, number, level, made) for number in (0, 1)]
            falls = up if goes_with(up, made) == 1 else down
            men = (rod(falls[0], level), rod(1 - falls[0], level))
            crowd = (men, ((0, 0), (6, 0)))
            for at in (made, made + 1):
                self.assertEqual(barred(shaft, at, True, crowd, ()), (0, 1) if at == made else ())
                crowd = crowd_behind(shaft, at, True, crowd, (), True, 7)
            self.assertEqual(crowd, (men, ((0, 0), (6, 0))))


class Manners(unittest.TestCase):

    def test_manners(self):
        crowd = ((aside(4), rod(0, 2), rod(1, 2), LOST, GRASS), ((0, 2), (0, 0), (2, 9), None, (3, 0)))
        broken = ((0, 1), (1, 4))
        for shaft in SHAFTS:
            check_manners(self, is_crowd, {"thing": crowd, "shaft": shaft, "made": 2}, ("thing",))
            for man in (0, 1, 3, 5):
                check_manners(self, wanted, {"shaft": shaft, "made": 2, "crowd": crowd, "man": man})
            for fresh in (True, False):
                named = {"shaft": shaft, "made": 2, "fresh": fresh, "crowd": crowd, "broken": broken}
                check_manners(self, ready_crowd, named)
                check_manners(self, barred, named)
                check_manners(self, crowd_behind, {**named, "moved": True, "top": 4})
        check_manners(self, first_crowd, {"book": ((4, 0, 3), (0, 4, 1))})
        check_manners(self, carried, {"made": 2, "crowd": crowd})
        check_manners(self, soaked, {"crowd": crowd, "top": 2})


if __name__ == "__main__":
    unittest.main()
