"""[4]: levels, platforms, strides."""

import unittest

from helpers import ODD_THINGS, check_manners, deep_thing, listed, same, shaft_of, spoilt
from manrods.errors import NoPlace
from manrods.shafts import (
    faced_level, facing_platform, falling_rod, goes_with, is_platform, is_shaft, level_behind, platforms, rising_rod,
    riser_platform, sinker_platform, stride_of, stride_platforms)

DEEPS = (2, 3, 4, 9, 40)
MADES = (0, 1, 2, 7, 10 ** 12, 10 ** 12 + 1)


def by_hand(shaft, made):
    """The dict of what each PLATFORM faces, as [3] tells it."""
    deep = shaft[0]
    faced = {(0, level): level + made % 2 for level in range(deep)}
    faced.update({(1, level): level - made % 2 for level in range(1, deep + 1)})
    return faced


class Things(unittest.TestCase):

    def test_shafts(self):
        for shaft in ((2, True, (0, 0, 0)), (2, False, (10 ** 40, 5, 0)), shaft_of(4, True, 2), shaft_of(100, False)):
            self.assertIs(is_shaft(shaft), True)

    def test_no_shafts(self):
        bad = [
            (1, True, (0, 0)), (0, True, (0,)), (-1, True, ()), (2, True, (0, 0)), (2, True, (0, 0, 0, 0)), (2, True, ()),
            (2, 1, (0, 0, 0)), (2, 0, (0, 0, 0)), (2, None, (0, 0, 0)), (True, True, (0, 0)), (2, True, (0, 0, -1)),
            (2, True, (0, True, 0)), (2, True, (0, None, 0)), (2, True, (0, "1", 0)), (2, True, [0, 0, 0]),
            [2, True, (0, 0, 0)], (2, True), (2, True, (0, 0, 0), 1), ("2", True, (0, 0, 0)), (2, "wide", (0, 0, 0)),
            (10 ** 30, True, (0, 0, 0)), (2, True, ((0,), 0, 0)), deep_thing(100),
        ]
        for thing in bad + list(ODD_THINGS):
            self.assertIs(is_shaft(thing), False, thing)

    def test_spoilt_shafts(self):
        for thing in spoilt((3, False, (0, 1, 2, 3))):
            room_is_huge = isinstance(thing, tuple) and len(thing) == 3 and thing[:2] == (3, False) and isinstance(
                thing[2], tuple) and 10 ** 20 in thing[2]
            turned = same(thing, (3, True, (0, 1, 2, 3)))
            self.assertIs(is_shaft(thing), room_is_huge or turned, thing)

    def test_platforms_as_things(self):
        for deep in DEEPS:
            shaft = shaft_of(deep, True)
            good = by_hand(shaft, 0)
            for rod in range(-2, 4):
                for level in range(-2, deep + 4):
                    self.assertIs(is_platform((rod, level), shaft), (rod, level) in good)
                    self.assertIs(is_platform([rod, level], shaft), False)
            self.assertIs(is_platform((0, deep), shaft), False)
            self.assertIs(is_platform((1, 0), shaft), False)
            self.assertIs(is_platform((0, deep - 1), listed(shaft)), True)

    def test_no_platforms(self):
        shaft = shaft_of(4, False)
        bad = (
            (0, True), (False, 1), (True, 1), (0, 1, 1), (0,), (0, None), ("0", 1), (0, "1"), (0, 10 ** 30), (0, (1,)),
            deep_thing(100))
        for thing in bad + tuple([thing for thing in ODD_THINGS if not same(thing, (1, 2))]):
            self.assertIs(is_platform(thing, shaft), False, thing)


class Looks(unittest.TestCase):

    def test_platforms(self):
        for deep in DEEPS:
            shaft = shaft_of(deep, False)
            found = platforms(shaft)
            self.assertTrue(same(found, tuple(sorted(by_hand(shaft, 0)))))
            self.assertEqual(len(found), 2 * deep)

    def test_rods(self):
        for made in MADES:
            # While made is even rod 0 falls.
            self.assertEqual(falling_rod(made), 0 if made % 2 == 0 else 1)
            self.assertEqual(rising_rod(made), 1 if made % 2 == 0 else 0)

    def test_faced_levels(self):
        for deep in DEEPS:
            shaft = shaft_of(deep, True)
            for made in MADES:
                for platform, level in by_hand(shaft, made).items():
                    self.assertEqual(faced_level(platform, made), level)
                    self.assertEqual(facing_platform(shaft, platform[0], level, made), platform)

    def test_who_stands_is_carried_with_the_platform(self):
        shaft = shaft_of(5, True)
        for made in MADES:
            for platform in platforms(shaft):
                level = faced_level(platform, made)
                behind = level_behind(platform[0], level, made)
                self.assertEqual(behind, faced_level(platform, made + 1))
                self.assertEqual(behind - level, goes_with(platform, made))
                self.assertEqual(behind - level, 1 if platform[0] == falling_rod(made) else -1)

    def test_nothing_faces_a_level(self):
        for deep in DEEPS:
            shaft = shaft_of(deep, False)
            for made in MADES:
                faced = by_hand(shaft, made)
                for level in (*range(-3, deep + 4), -10 ** 12, 10 ** 12):
                    for rod in (0, 1):
                        self.check_facing(shaft, rod, level, made, faced)

    def check_facing(self, shaft, rod, level, made, faced):
        found = [platform for platform in faced if platform[0] == rod and faced[platform] == level]
        calls = [lambda: facing_platform(shaft, rod, level, made)]
        if rod == rising_rod(made):
            calls.append(lambda: riser_platform(shaft, level, made))
        else:
            calls.append(lambda: sinker_platform(shaft, level, made))
        for call in calls:
            if found:
                self.assertTrue(same(call(), found[0]))
            else:
                with self.assertRaises(NoPlace) as caught:
                    call()
                self.assertEqual(caught.exception.place, level)

    def test_who_rises_has_a_platform_at_each_level_but_the_grass(self):
        shaft = shaft_of(6, True)
        for made in MADES:
            for level in range(1, 7):
                self.assertEqual(goes_with(riser_platform(shaft, level, made), made), -1)
            for level in range(6):
                self.assertEqual(goes_with(sinker_platform(shaft, level, made), made), 1)
            with self.assertRaises(NoPlace):
                riser_platform(shaft, 0, made)
            with self.assertRaises(NoPlace):
                sinker_platform(shaft, 6, made)

    def test_strides(self):
        for deep in DEEPS:
            shaft = shaft_of(deep, True)
            for stride in range(deep):
                pair = stride_platforms(shaft, stride)
                self.assertTrue(same(pair, ((0, stride), (1, stride + 1))))
                self.assertEqual([stride_of(platform) for platform in pair], [stride, stride])
                for platform in pair:
                    faced = sorted([faced_level(platform, made) for made in (0, 1)])
                    self.assertEqual(faced, [stride, stride + 1])
            for stride in (-1, -2, -10 ** 12, deep, deep + 1, 10 ** 12):
                with self.assertRaises(NoPlace) as caught:
                    stride_platforms(shaft, stride)
                self.assertEqual(caught.exception.place, stride)

    def test_the_slot_tells_which_platform_of_a_stride(self):
        shaft = shaft_of(7, False)
        for colour in (0, 1):
            used = {}
            for level in range(1, 8):
                for made in range(10):
                    if (made + level) % 2 == colour:
                        platform = riser_platform(shaft, level, made)
                        self.assertEqual(used.setdefault(stride_of(platform), platform), platform)
                    if (made - level + 1) % 2 == colour:
                        platform = sinker_platform(shaft, level - 1, made)
                        self.assertEqual(used.setdefault(stride_of(platform), platform), platform)
            self.assertEqual(sorted(used), list(range(7)))


class Manners(unittest.TestCase):

    def test_manners(self):
        shaft = shaft_of(4, True)
        check_manners(self, is_shaft, {"thing": shaft}, ("thing",))
        check_manners(self, is_platform, {"thing": (0, 1), "shaft": shaft}, ("thing",))
        check_manners(self, platforms, {"shaft": shaft})
        for made in MADES:
            check_manners(self, rising_rod, {"made": made})
            check_manners(self, falling_rod, {"made": made})
            check_manners(self, faced_level, {"platform": (0, 2), "made": made})
            check_manners(self, goes_with, {"platform": (1, 2), "made": made})
            for level in (-1, 0, 2, 4, 5):
                check_manners(self, facing_platform, {"shaft": shaft, "rod": 0, "level": level, "made": made})
                check_manners(self, riser_platform, {"shaft": shaft, "level": level, "made": made})
                check_manners(self, sinker_platform, {"shaft": shaft, "level": level, "made": made})
            check_manners(self, level_behind, {"rod": 1, "level": 2, "made": made})
        check_manners(self, stride_of, {"platform": (1, 2)})
        for stride in (-1, 0, 4):
            check_manners(self, stride_platforms, {"shaft": shaft, "stride": stride})


if __name__ == "__main__":
    unittest.main()
