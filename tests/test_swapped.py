"""[14]: lifts exchanged."""

import itertools
import unittest

from helpers import (
    ODD_THINGS, WaterPlay, check_manners, deep_thing, dice_of, outcome, random_waters, same, spoilt)
from manrods.errors import CanNot, NoPlace
from manrods.swapped import (
    flights_of, given_in_all, given_row, gives_alike, is_flight, is_parting_comes, lag_of, least_rooms, may_exchange,
    measures_exchanged, narrow_of, parting_comes)

FLIGHT, PLAIN, BROAD = ((4, 1), (1, 0), (3, 0)), ((1, 1), (9, 0), (1, 1)), ((2, 1), (4, 0), (3, 0))
PUMP = ((3, 0, 3, 4, 1), (2, 9, 0, 1, 0), (1, 9, 2, 3, 0))
FAR = 10 ** 12


class Play:
    """A FLIGHT played lift by lift: what is given in each swing, the most that each cistern holds."""

    def __init__(self, flight, comes):
        self.flight, self.comes = flight, list(comes)
        self.held, self.most, self.given = [0] * len(flight), [0] * len(flight), []

    def swing(self):
        out = 0
        for rod in (1, 0):
            ahead = list(self.held)
            for at, (measure, own) in enumerate(self.flight):
                if own != rod:
                    continue
                lifted = min(measure, ahead[at])
                self.held[at] -= lifted
                if at + 1 < len(self.held):
                    self.held[at + 1] += lifted
                else:
                    out += lifted
            self.note()
        if len(self.given) < len(self.comes):
            self.held[0] += self.comes[len(self.given)]
        self.note()
        self.given.append(out)

    def note(self):
        self.most = [max(pair) for pair in zip(self.most, self.held)]

    def play(self, swings):
        while len(self.given) < swings:
            self.swing()
        return tuple(self.given[:swings])

    def play_out(self):
        while any(self.held) or len(self.given) < len(self.comes):
            self.swing()
        return tuple(self.most)


def random_flight(dice, most, last):
    return tuple([(dice.randint(1, last), dice.randint(0, 1)) for _ in range(dice.randint(1, most))])


def random_comes(dice, most, last):
    return tuple([dice.randint(0, last) if dice.random() < 0.7 else 0 for _ in range(dice.randint(0, most))])


def all_flights(lifts, measures):
    """All FLIGHTS of at most so many lifts."""
    pairs = list(itertools.product(measures, (0, 1)))
    for many in range(1, lifts + 1):
        yield from itertools.product(pairs, repeat=many)


def all_comes(many, last):
    """All COMES of at most so many numbers."""
    for length in range(many + 1):
        yield from itertools.product(range(last + 1), repeat=length)


class Things(unittest.TestCase):

    def test_flights(self):
        for flight in (FLIGHT, PLAIN, ((1, 0),), ((10 ** 30, 1),), ((5, 0),) * 300):
            self.assertIs(is_flight(flight), True)
            self.assertIs(is_flight(list(flight)), False)
            self.assertIs(is_flight((list(flight[0]), *flight[1:])), False)
        for thing in [*ODD_THINGS, deep_thing(100), ((0, 1),), ((1, 2),), ((1, True),), ((True, 1),), ((1, -1),), ((1,),),
                      ((1, 0, 0),), (1, 0), ((1, 0), None), ((-1, 0),), ((1, None),), (("1", 0),)]:
            self.assertIs(is_flight(thing), False, thing)
        found = 0
        for thing in spoilt(FLIGHT):
            good = isinstance(thing, tuple) and thing != () and all([isinstance(lift, tuple) for lift in thing])
            good = good and all([len(lift) == 2 and type(lift[0]) is type(lift[1]) is int for lift in thing])
            good = good and all([measure > 0 and rod in (0, 1) for measure, rod in thing])
            self.assertIs(is_flight(thing), good, thing)
            found += good
        self.assertGreater(found, 5)


class Given(unittest.TestCase):

    def test_narrow_and_lag(self):
        for flight in all_flights(4, (1, 2)):
            self.assertEqual(narrow_of(flight), min([measure for measure, _ in flight]))
            # Alone on its way, one unit is given so many swings behind that at whose end it came, less one.
            swing = [at for at, amount in enumerate(Play(flight, (1,)).play(10)) if amount]
            self.assertEqual(swing, [lag_of(flight) + 1])

    def test_given_row(self):
        dice = dice_of("given")
        for _ in range(300):
            flight, comes = random_flight(dice, 8, 5), random_comes(dice, 20, 9)
            swings = dice.randint(0, 60)
            self.assertTrue(same(given_row(flight, comes, swings), Play(flight, comes).play(swings)))
        self.assertEqual(given_row(FLIGHT, (3,), 0), ())
        self.assertEqual(given_row(((1, 0),), (2000,), 1000), (0, *[1] * 999))

    def test_given_in_all(self):
        dice = dice_of("given in all")
        for _ in range(300):
            flight, comes = random_flight(dice, 8, 5), random_comes(dice, 20, 9)
            row = Play(flight, comes).play(60)
            for swings in range(61):
                self.assertEqual(given_in_all(flight, comes, swings), sum(row[:swings]), (flight, comes, swings))
            self.assertEqual(given_in_all(flight, comes, FAR), sum(comes))
        for flight in all_flights(3, (1, 3)):
            for comes in ((), (0,), (5,), (0, 0, 5, 1)):
                for swings in range(9):
                    self.assertEqual(given_in_all(flight, comes, swings), sum(Play(flight, comes).play(swings)))

    def test_given_in_all_far(self):
        slow = ((1, 0), (7, 1))
        self.assertEqual(lag_of(slow), 1)
        self.assertEqual(given_in_all(slow, (FAR, 5), 10 ** 6), 10 ** 6 - 2)
        self.assertEqual(given_in_all(slow, (0, FAR), 10 ** 6), 10 ** 6 - 3)
        self.assertEqual(given_in_all(slow, (10 ** 6,) * 20, FAR), 20 * 10 ** 6)
        self.assertEqual(given_in_all(slow, (10 ** 6,) * 20, 20 * 10 ** 6 + 1), 20 * 10 ** 6 - 1)
        self.assertEqual([given_in_all(slow, (), swings) for swings in (0, 1, FAR)], [0, 0, 0])

    def test_measures_but_a_least_one_may_be_greater(self):
        dice = dice_of("exchanged")
        for _ in range(60):
            flight, comes = random_flight(dice, 6, 4), random_comes(dice, 9, 9)
            measures = [measure for measure, _ in flight]
            dice.shuffle(measures)
            mixed = tuple([(measure, rod) for measure, (_, rod) in zip(measures, flight)])
            self.assertEqual(given_row(mixed, comes, 60), given_row(flight, comes, 60))


class Rooms(unittest.TestCase):

    def test_least_rooms(self):
        dice = dice_of("rooms")
        for _ in range(500):
            flight, comes = random_flight(dice, 8, dice.choice((3, 9, 40))), random_comes(dice, 20, dice.choice((5, 30, 300)))
            self.assertTrue(same(least_rooms(flight, comes), Play(flight, comes).play_out()), (flight, comes))

    def test_small_ones(self):
        for flight in all_flights(3, (1, 2, 3)):
            for comes in ((), (0,), (0, 0, 7), (4, 0, 0, 3), (9, 9)):
                self.assertEqual(least_rooms(flight, comes), Play(flight, comes).play_out(), (flight, comes))

    def test_behind_one_rod(self):
        # Behind the lifting of rod 1 the upper cistern holds more than behind any swing.
        self.assertEqual(least_rooms(((5, 1), (5, 0)), (5, 5)), (5, 5))
        self.assertEqual(least_rooms(((9, 1), (4, 0)), (100,)), (100, 59))
        self.assertEqual(Play(((9, 1), (4, 0)), (100,)).play_out(), (100, 59))

    def test_great_numbers(self):
        great = 10 ** 6
        self.assertEqual(least_rooms(((1, 0),), (great,) * 20), (20 * great - 19,))
        slow = ((great, 1), (1, 0), (great, 1))
        self.assertEqual(least_rooms(slow, (great,)), (great, great, 1))
        self.assertEqual(least_rooms(((2, 1), (1, 1)), (great,))[1], great // 2 + 1)
        falling = tuple([(8 - at, at % 2) for at in range(8)])
        found = least_rooms(falling, (great,) * 20)
        self.assertEqual(found[0], 20 * great - 19 * 8)
        near = Play(falling, (1000,) * 20).play_out()
        self.assertEqual(least_rooms(falling, (1000,) * 20), near)


class Alike(unittest.TestCase):

    def test_gives_alike_by_all_comes(self):
        flights = list(all_flights(2, (1, 2, 3)))
        comes = list(all_comes(2, 4))
        rows = {flight: [given_row(flight, own, 12) for own in comes] for flight in flights}
        for one, two in itertools.product(flights, flights):
            alike = rows[one] == rows[two]
            self.assertIs(gives_alike(one, two), alike, (one, two))
            found = outcome(parting_comes, one, two)
            if alike:
                self.assertEqual(found[:2], ("error", "CanNot"))
            else:
                self.assertIs(is_parting_comes(one, two, found[1]), True)
                self.assertNotEqual(given_row(one, found[1], 20), given_row(two, found[1], 20))
            for at, own in enumerate(comes):
                self.assertIs(is_parting_comes(one, two, own), rows[one][at] != rows[two][at], (one, two, own))

    def test_parting_comes_of_long_ones(self):
        dice = dice_of("parting")
        kinds = {True: 0, False: 0}
        for _ in range(600):
            one, two = random_flight(dice, 8, 4), random_flight(dice, 8, 4)
            if dice.random() < 0.5:
                two = tuple([(measure + dice.randint(0, 1), rod) for measure, rod in one])
            comes = random_comes(dice, 20, dice.choice((1, 2, 5)))
            apart = Play(one, comes).play(200) != Play(two, comes).play(200)
            self.assertIs(is_parting_comes(one, two, comes), apart, (one, two, comes))
            kinds[apart] += 1
            if not gives_alike(one, two):
                found = parting_comes(one, two)
                self.assertNotEqual(Play(one, found).play(60), Play(two, found).play(60))
        self.assertGreater(min(kinds.values()), 100)

    def test_things_that_are_no_comes(self):
        one, two = ((1, 0),), ((2, 0),)
        self.assertIs(is_parting_comes(one, two, (2,)), True)
        for thing in [[2], (2, -1), (2, True), (2, None), (2, [1]), (2, (1,)), 2, "2", deep_thing(100), ("2",)]:
            self.assertIs(is_parting_comes(one, two, thing), False, thing)
        for thing in ODD_THINGS:
            good = isinstance(thing, tuple) and all([type(own) is int and own >= 0 for own in thing]) and max(thing, default=0) > 1
            self.assertIs(is_parting_comes(one, two, thing), good, thing)
        self.assertIs(is_parting_comes(one, two, (0,) * 10 ** 5 + (10 ** 30,)), True)
        self.assertIs(is_parting_comes(one, two, (1,) * 10 ** 5), False)
        self.assertIs(is_parting_comes(one, one, (5,)), False)

    def test_great_measures(self):
        one, two = ((10 ** 6, 1),), ((10 ** 6 + 5, 0),)
        found = parting_comes(one, two)
        self.assertNotEqual(given_row(one, found, 9), given_row(two, found, 9))
        self.assertIs(is_parting_comes(one, two, (10 ** 6,)), False)


class Exchanging(unittest.TestCase):

    def test_flights_of(self):
        dice = dice_of("flights of")
        for _ in range(300):
            waters = random_waters(dice, dice.randint(2, 12), 8, 2)
            springs = [cistern[2] for cistern in waters]
            good = [pair for pair in itertools.combinations(range(len(waters)), 2) if not any(springs[pair[0] + 1:pair[1] + 1])]
            longest = [pair for pair in good
                       if not any([own != pair and own[0] <= pair[0] and own[1] >= pair[1] for own in good])]
            self.assertTrue(same(flights_of(waters), longest), waters)
        none = tuple([(level, 1, 0, 1, 0) for level in range(4, 0, -1)])
        self.assertEqual(flights_of(none), [(0, 3)])
        self.assertEqual(flights_of(none[:1]), [])

    def test_measures_exchanged(self):
        self.assertTrue(same(measures_exchanged(PUMP, 0, 1), ((3, 0, 3, 1, 1), (2, 9, 0, 4, 0), (1, 9, 2, 3, 0))))
        for one, other in itertools.product(range(3), range(3)):
            found = measures_exchanged(PUMP, one, other)
            self.assertEqual(found, measures_exchanged(PUMP, other, one))
            self.assertEqual(measures_exchanged(found, one, other), PUMP)
            self.assertEqual((found[one][3], found[other][3]), (PUMP[other][3], PUMP[one][3]))

    def test_may_exchange(self):
        dice = dice_of("may exchange")
        kinds = {True: 0, False: 0}
        for _ in range(600):
            waters = random_waters(dice, dice.randint(2, 9), 6, 5)
            one, other = dice.randrange(len(waters)), dice.randrange(len(waters))
            alike = self.free_row(waters) == self.free_row(measures_exchanged(waters, one, other))
            self.assertIs(may_exchange(waters, one, other), alike, (waters, one, other))
            self.assertIs(may_exchange(waters, other, one), alike)
            low, high = sorted((one, other))
            if not any([cistern[2] for cistern in waters[low + 1:high + 1]]):
                self.assertIs(alike, True)
            kinds[alike] += 1
        self.assertGreater(min(kinds.values()), 100)

    def free_row(self, waters):
        """What comes out in each of 60 swings if nothing spills, rooms being greater than all that springs."""
        play = WaterPlay([(level, 10 ** 9, *rest) for level, _, *rest in waters], [0] * len(waters))
        outs = [0]
        for rest in range(120):
            play.rest(rest, rest)
            if rest % 2:
                outs.append(play.out)
        return [two - one for one, two in zip(outs, outs[1:])]

    def test_no_place(self):
        for call in (measures_exchanged, may_exchange):
            for one, other, place in ((3, 0, 3), (0, 3, 3), (-1, 9, -1), (9, -1, 9), (5, 4, 5), (0, -1, -1), (2, 10 ** 9, 10 ** 9)):
                with self.assertRaises(NoPlace) as caught:
                    call(PUMP, one, other)
                self.assertEqual(vars(caught.exception), {"place": place})


class Manners(unittest.TestCase):

    def test_manners(self):
        check_manners(self, is_flight, {"thing": FLIGHT}, ("thing",))
        for call in (narrow_of, lag_of):
            check_manners(self, call, {"flight": FLIGHT})
        for swings in (0, 6):
            check_manners(self, given_row, {"flight": FLIGHT, "comes": (3, 0, 5), "swings": swings})
            check_manners(self, given_in_all, {"flight": FLIGHT, "comes": (3, 0, 5), "swings": swings})
        check_manners(self, least_rooms, {"flight": FLIGHT, "comes": (3, 0, 5)})
        for other in (PLAIN, BROAD):
            check_manners(self, gives_alike, {"flight": FLIGHT, "other": other})
            check_manners(self, parting_comes, {"flight": FLIGHT, "other": other})
            check_manners(self, is_parting_comes, {"flight": FLIGHT, "other": other, "thing": (2,)}, ("thing",))
        check_manners(self, flights_of, {"waters": PUMP})
        for other in (1, 2, 3):
            check_manners(self, measures_exchanged, {"waters": PUMP, "one": 0, "other": other})
            check_manners(self, may_exchange, {"waters": PUMP, "one": 0, "other": other})


if __name__ == "__main__":
    unittest.main()
