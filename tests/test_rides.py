"""[5]: rides, slots and colours."""

import unittest

from helpers import ODD_THINGS, all_rides, check_manners, deep_thing, dice_of, listed, random_book, same, shaft_of
from helpers import spoilt
from manrods.errors import Unfit
from manrods.rides import (
    board_of, colour_of, end_of, first_marks, is_book, is_ride, is_riser, later_book, level_at, mark_of, passes,
    platform_at, ridden, strokes_of, turned_book)
from manrods.shafts import faced_level, goes_with, is_platform, level_behind, stride_of

SHAFT = shaft_of(4, True, 2)
FAR = (0, 1, 5, 10 ** 12)


class Things(unittest.TestCase):

    def test_rides(self):
        for ride in all_rides(4, (0, 1, 10 ** 40)):
            self.assertIs(is_ride(ride, SHAFT), True)
            self.assertIs(is_ride(ride, listed(SHAFT)), True)
            self.assertIs(is_ride(list(ride), SHAFT), False)

    def test_no_rides(self):
        bad = [
            (2, 2, 0), (0, 0, 0), (5, 0, 0), (0, 5, 0), (-1, 2, 0), (2, -1, 0), (2, 1, -1), (2, 1), (2, 1, 0, 0), (2, 1, None),
            (True, 2, 0), (2, False, 0), (2, 1, False), (2, 1, "0"), (None, 1, 0), (10 ** 30, 1, 0), ((2,), 1, 0),
            deep_thing(100)]
        for thing in bad + [thing for thing in ODD_THINGS if not same(thing, (1, 2, 3))]:
            self.assertIs(is_ride(thing, SHAFT), False, thing)
            self.assertIs(is_book((thing,), SHAFT), False, thing)

    def test_books(self):
        good = ((), ((4, 0, 0),), ((4, 0, 0), (4, 0, 0), (0, 1, 10 ** 40)), tuple(all_rides(4, range(9))))
        for book in good:
            self.assertIs(is_book(book, SHAFT), True)
            self.assertIs(is_book(book, listed(SHAFT)), True)
            self.assertIs(is_book(list(book), SHAFT), False)

    def test_no_books(self):
        odd = [thing for thing in ODD_THINGS if thing != ()]
        bad = odd + [([4, 0, 0],), (4, 0, 0), ((4, 0, 0), (4, 5, 0)), ((4, 0, 0), None), deep_thing(100)]
        for thing in bad:
            self.assertIs(is_book(thing, SHAFT), False, thing)

    def test_spoilt_books(self):
        for thing in spoilt(((4, 1, 2), (0, 3, 1))):
            good = isinstance(thing, tuple) and all([is_ride(part, SHAFT) for part in thing])
            self.assertIs(is_book(thing, SHAFT), good, thing)
        for thing in spoilt((4, 1, 2)):
            self.assertIs(is_ride(thing, SHAFT), same(thing, (4, 1, 10 ** 20)), thing)


class Marks(unittest.TestCase):

    def test_riser_or_sinker(self):
        for ride in all_rides(4, (0, 3)):
            self.assertIs(is_riser(ride), ride[1] < ride[0])
            self.assertEqual(strokes_of(ride), max(ride[:2]) - min(ride[:2]))

    def test_marks(self):
        for ride in all_rides(4, (0, 3)):
            for board in FAR:
                mark = board + ride[0] if ride[1] < ride[0] else board - ride[0]
                self.assertEqual(mark_of(ride, board), mark)
                self.assertEqual(board_of(ride, mark), board)

    def test_marks_below_zero(self):
        self.assertEqual(mark_of((3, 4, 9), 0), -3)
        self.assertEqual(board_of((3, 4, 9), -3), 0)
        with self.assertRaises(Unfit):
            board_of((3, 4, 9), -4)
        self.assertEqual(board_of((3, 0, 9), 3), 0)
        with self.assertRaises(Unfit):
            board_of((3, 0, 9), 2)
        self.assertEqual(board_of((0, 4, 9), 0), 0)
        with self.assertRaises(Unfit):
            board_of((0, 4, 9), -1)

    def test_colours(self):
        for mark in range(-9, 10):
            self.assertEqual(colour_of(mark), 1 if mark in (-9, -7, -5, -3, -1, 1, 3, 5, 7, 9) else 0)
        self.assertEqual([colour_of(10 ** 12), colour_of(-10 ** 12 - 1)], [0, 1])

    def test_first_marks(self):
        self.assertEqual(first_marks(()), [])
        self.assertEqual(first_marks(((4, 0, 3),)), [7])
        self.assertEqual(first_marks(((4, 0, 3), (3, 4, 1), (0, 1, 10 ** 12))), [7, -2, 10 ** 12])


class Ways(unittest.TestCase):

    def test_stroke_by_stroke(self):
        for ride in all_rides(4, (0,)):
            for board in FAR:
                self.check_way(ride, board)

    def check_way(self, ride, board):
        step = 1 if ride[1] > ride[0] else -1
        end = board + abs(ride[0] - ride[1])
        self.assertEqual(end_of(ride, board), end)
        level, used = ride[0], []
        for made in range(board, end):
            self.assertEqual(level_at(ride, board, made), level)
            platform = platform_at(SHAFT, ride, board, made)
            self.assertTrue(is_platform(platform, SHAFT))
            self.assertEqual(faced_level(platform, made), level)
            self.assertEqual(goes_with(platform, made), step)
            level = level_behind(platform[0], level, made)
            used.append(platform)
        self.assertEqual(level, ride[1])
        self.assertTrue(same(ridden(SHAFT, ride, board), used))
        for made in (0, max(0, board - 1), max(0, board - 2)):
            if made < board:
                self.assertEqual(level_at(ride, board, made), ride[0])
                self.assertIsNone(platform_at(SHAFT, ride, board, made))
        for made in (end, end + 1, end + 10 ** 6):
            self.assertEqual(level_at(ride, board, made), ride[1])
            self.assertIsNone(platform_at(SHAFT, ride, board, made))

    def test_passes(self):
        for ride in all_rides(4, (0, 7)):
            strides = [stride_of(platform) for platform in ridden(SHAFT, ride, 0)]
            for stride in (*range(-3, 8), -10 ** 12, 10 ** 12):
                self.assertIs(passes(ride, stride), stride in strides)


class Books(unittest.TestCase):

    def test_later_books(self):
        self.assertEqual(later_book((), 3), ())
        self.assertTrue(same(later_book(((4, 0, 1), (0, 2, 0)), 10 ** 6), ((4, 0, 10 ** 6 + 1), (0, 2, 10 ** 6))))
        self.assertEqual(later_book(((4, 0, 1),), 0), ((4, 0, 1),))

    def test_turned_books(self):
        self.assertEqual(turned_book(()), ())
        for _ in range(50):
            book = random_book(dice_of("turned"), 4, 5, 9)
            turned = turned_book(book)
            self.assertTrue(is_book(turned, SHAFT))
            for ride, back in zip(book, turned):
                self.assertEqual(back, (ride[1], ride[0], ride[2] + abs(ride[0] - ride[1])))
                self.assertNotEqual(is_riser(ride), is_riser(back))


class Manners(unittest.TestCase):

    def test_manners(self):
        book = ((4, 1, 2), (0, 3, 1))
        check_manners(self, is_ride, {"thing": book[0], "shaft": SHAFT}, ("thing",))
        check_manners(self, is_book, {"thing": book, "shaft": SHAFT}, ("thing",))
        for ride in book:
            check_manners(self, is_riser, {"ride": ride})
            check_manners(self, strokes_of, {"ride": ride})
            check_manners(self, mark_of, {"ride": ride, "board": 3})
            check_manners(self, board_of, {"ride": ride, "mark": 6})
            check_manners(self, board_of, {"ride": ride, "mark": -6})
            check_manners(self, end_of, {"ride": ride, "board": 3})
            check_manners(self, level_at, {"ride": ride, "board": 3, "made": 4})
            for made in (2, 4, 9):
                check_manners(self, platform_at, {"shaft": SHAFT, "ride": ride, "board": 3, "made": made})
            check_manners(self, ridden, {"shaft": SHAFT, "ride": ride, "board": 3})
            check_manners(self, passes, {"ride": ride, "stride": 2})
        check_manners(self, colour_of, {"mark": -3})
        check_manners(self, first_marks, {"book": book})
        check_manners(self, later_book, {"book": book, "many": 3})
        check_manners(self, turned_book, {"book": book})


if __name__ == "__main__":
    unittest.main()
