"""[8]: waits."""

import itertools
import unittest

from helpers import ODD_THINGS, all_rides, check_manners, deep_thing, dice_of, listed, random_book, same, shaft_of
from helpers import spoilt
from manrods.dances import nobody_barred
from manrods.errors import TooMuch
from manrods.meetings import clash, meeting
from manrods.rides import colour_of, first_marks, is_riser
from manrods.waits import (
    colour_sum, companies, free_ready, hinder, is_free, is_waits, least_waits, waited_book)

NARROW, WIDE = shaft_of(4, False, 0), shaft_of(4, True, 0)
SHAFTS = (NARROW, WIDE)


def waits_of_sum(many, total):
    """All WAITS of so many men with this sum, the least by comparison first."""
    if many == 0:
        return [()] if total == 0 else []
    return [(wait, *rest) for wait in range(total + 1) for rest in waits_of_sum(many - 1, total - wait)]


def least_by_all(book, is_good):
    """The least WAITS of the least sum with which is_good holds of the BOOK."""
    total = 0
    while True:
        for waits in waits_of_sum(len(book), total):
            if is_good(waited_book(book, waits)):
                return waits
        total += 1


def hinder_at_some_time(shaft, ride, other):
    """Whether two hinder one another with some readies of both."""
    for gap in range(-9, 10):
        one, two = (*ride[:2], 10 + gap), (*other[:2], 10)
        if hinder(shaft, one, two):
            return True
    return False


def companies_by_readies(shaft, book):
    """Companies by joining men who hinder one another at some time until nothing changes."""
    part = list(range(len(book)))
    for one, two in itertools.combinations(range(len(book)), 2):
        if hinder_at_some_time(shaft, book[one], book[two]):
            part = [part[one] if name == part[two] else name for name in part]
    names = sorted(set(part), key=part.index)
    return [tuple([man for man, own in enumerate(part) if own == name]) for name in names]


def is_coloured(shaft, book):
    """Whether in each company slots are unlike, numbers are, and they have unlike colours."""
    for company in companies_by_readies(shaft, book):
        men = [book[man] for man in company]
        slots = first_marks([ride for ride in men if is_riser(ride)])
        numbers = first_marks([ride for ride in men if not is_riser(ride)])
        if len(set(slots)) < len(slots) or len(set(numbers)) < len(numbers):
            return False
        colours = {(colour_of(slot), "slot") for slot in slots} | {(1 - colour_of(mark), "no") for mark in numbers}
        if slots and numbers and len({colour for colour, _ in colours}) > 1:
            return False
    return True


def random_case(dice, most, last):
    deep = dice.choice((2, 3, 4, 5))
    return shaft_of(deep, dice.random() < 0.3, 0), random_book(dice, deep, dice.randint(0, most), last)


class Things(unittest.TestCase):

    def test_waits_as_things(self):
        pair = ((4, 0, 0), (0, 4, 0))
        for waits in ((0, 0), (5, 0), (10 ** 40, 3)):
            self.assertIs(is_waits(waits, pair), True)
            self.assertIs(is_waits(waits, listed(pair)), True)
            self.assertIs(is_waits(list(waits), pair), False)
        self.assertIs(is_waits((), ()), True)
        odd = [thing for thing in ODD_THINGS if not same(thing, (1, 2))]
        bad = [(0, -1), (0, True), (False, 0), (0,), (0, 0, 0), (0, None), ("0", 0), (0, (0,)), (0, [0]), deep_thing(100)]
        for thing in odd + bad:
            self.assertIs(is_waits(thing, pair), False, thing)
        for thing in spoilt((3, 0)):
            good = isinstance(thing, tuple) and len(thing) == 2 and all([type(part) is int and part >= 0 for part in thing])
            self.assertIs(is_waits(thing, pair), good, thing)

    def test_waited_books(self):
        self.assertEqual(waited_book((), ()), ())
        self.assertTrue(same(waited_book(((4, 0, 1), (0, 4, 2)), (3, 0)), ((4, 0, 4), (0, 4, 2))))


class Hindering(unittest.TestCase):

    def test_hinder(self):
        for ride, other in itertools.product(all_rides(4, (0, 1, 3)), all_rides(4, (0, 2, 3))):
            clashes, meets = clash(ride, other) is not None, meeting(ride, other) is not None
            self.assertIs(hinder(WIDE, ride, other), clashes)
            self.assertIs(hinder(NARROW, ride, other), clashes or meets)

    def test_is_free(self):
        dice = dice_of("free")
        found = {True: 0, False: 0}
        for _ in range(300):
            shaft, book = random_case(dice, 5, 6)
            pairs = itertools.permutations(book, 2)
            expected = not any([hinder(shaft, one, two) for one, two in pairs])
            self.assertIs(is_free(shaft, book), expected)
            self.assertIs(nobody_barred(shaft, book), expected)
            found[expected] += 1
        self.assertGreater(min(found.values()), 50)
        for shaft in SHAFTS:
            self.assertIs(is_free(shaft, ()), True)

    def test_companies(self):
        dice = dice_of("companies")
        sizes = {}
        for _ in range(200):
            shaft, book = random_case(dice, 7, 9)
            found = companies(shaft, book)
            self.assertTrue(same(found, companies_by_readies(shaft, book)), (shaft, book))
            sizes[len(found)] = True
        self.assertGreater(len(sizes), 4)
        self.assertEqual(companies(NARROW, ()), [])

    def test_companies_hang_on_no_ready(self):
        for ready in (0, 5, 10 ** 6):
            self.assertEqual(companies(NARROW, ((4, 0, ready), (0, 4, 0), (1, 0, 3))), [(0, 1, 2)])
            self.assertEqual(companies(WIDE, ((4, 0, ready), (0, 4, 0), (1, 0, 3))), [(0, 2), (1,)])

    def test_free_ready(self):
        dice = dice_of("ready")
        for _ in range(200):
            shaft, book = random_case(dice, 6, 6)
            start, to = dice.sample(range(shaft[0] + 1), 2)
            own = dice.randint(0, 6)
            ready = own
            while any([hinder(shaft, (start, to, ready), other) for other in book]):
                ready += 1
            self.assertEqual(free_ready(shaft, book, (start, to, own)), ready)
        self.assertEqual(free_ready(NARROW, (), (4, 0, 7)), 7)


class Least(unittest.TestCase):

    def test_colour_sum(self):
        dice = dice_of("colour sum")
        for _ in range(120):
            shaft, book = random_case(dice, 4, 4)
            waits = least_by_all(book, lambda waited: is_coloured(shaft, waited))
            self.assertEqual(colour_sum(shaft, book), sum(waits), (shaft, book))

    def test_least_waits(self):
        dice = dice_of("least waits")
        for _ in range(200):
            shaft, book = random_case(dice, 4, 4)
            expected = least_by_all(book, lambda waited: is_free(shaft, waited))
            self.assertTrue(same(least_waits(shaft, book), expected), (shaft, book))
            self.assertLessEqual(sum(expected), colour_sum(shaft, book))

    def test_of_equal_sums_the_least_by_comparison(self):
        for shaft in SHAFTS:
            self.assertEqual(least_waits(shaft, ((4, 0, 0), (4, 0, 0))), (0, 1))
            self.assertEqual(least_waits(shaft, ((4, 0, 0), (4, 0, 0), (4, 0, 0))), (0, 1, 2))
        self.assertEqual(least_waits(NARROW, ((0, 4, 0), (4, 0, 0))), (0, 1))

    def test_company_by_company(self):
        dice = dice_of("company by company")
        for _ in range(60):
            shaft = shaft_of(8, dice.random() < 0.3, 0)
            upper = random_book(dice, 3, 3, 4)
            lower = tuple([(a + 4, b + 4, n) for a, b, n in random_book(dice, 3, 3, 4)])
            mixed = [ride for pair in zip(upper, lower) for ride in pair]
            found = least_waits(shaft, tuple(mixed))
            self.assertEqual(found[::2], least_waits(shaft, upper))
            self.assertEqual(found[1::2], least_waits(shaft, lower))
            self.assertEqual(colour_sum(shaft, tuple(mixed)), colour_sum(shaft, upper) + colour_sum(shaft, lower))

    def test_too_much(self):
        seven = ((4, 0, 0),) * 7
        for shaft in SHAFTS:
            with self.assertRaises(TooMuch):
                least_waits(shaft, seven)
            with self.assertRaises(TooMuch):
                least_waits(shaft, ((4, 0, 0), (4, 3, 9), (4, 3, 99), (4, 3, 999), (3, 0, 5), (2, 1, 6), (1, 0, 7)))
            self.assertEqual(colour_sum(shaft, seven), 21)
            self.assertEqual(least_waits(shaft, seven[:6]), (0, 1, 2, 3, 4, 5))

    def test_many_small_companies(self):
        deep = 40
        book = tuple([(level, level + 1, 0) for level in range(deep)])
        self.assertEqual(least_waits(shaft_of(deep, False), book), (0,) * 40)
        pairs = tuple([(level - level % 2, level - level % 2 + 1, 0) for level in range(deep)])
        self.assertEqual(least_waits(shaft_of(deep, False), pairs), (0, 1) * 20)
        self.assertEqual(colour_sum(shaft_of(deep, False), pairs), 20)

    def test_six_in_a_deep_shaft(self):
        shaft, book = shaft_of(40, False), ((0, 40, 0),) * 5 + ((40, 0, 0),)
        found = least_waits(shaft, book)
        self.assertTrue(is_free(shaft, waited_book(book, found)))
        self.assertEqual((found, colour_sum(shaft, book)), ((0, 2, 4, 6, 8, 1), 21))

    def test_no_men(self):
        for shaft in SHAFTS:
            self.assertEqual((least_waits(shaft, ()), colour_sum(shaft, ())), ((), 0))


class Manners(unittest.TestCase):

    def test_manners(self):
        some = ((4, 1, 0), (0, 3, 0), (2, 4, 1), (1, 0, 9))
        check_manners(self, is_waits, {"thing": (0, 1, 2, 3), "book": some}, ("thing",))
        check_manners(self, waited_book, {"book": some, "waits": (0, 1, 2, 3)})
        for shaft in SHAFTS:
            check_manners(self, hinder, {"shaft": shaft, "ride": some[0], "other": some[1]})
            check_manners(self, free_ready, {"shaft": shaft, "book": some, "ride": (4, 0, 0)})
            for call in (is_free, companies, colour_sum, least_waits):
                check_manners(self, call, {"shaft": shaft, "book": some})
            check_manners(self, least_waits, {"shaft": shaft, "book": some[:1] * 7})


if __name__ == "__main__":
    unittest.main()
