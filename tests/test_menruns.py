"""[10]: runs of men."""

import unittest

from helpers import ODD_THINGS, check_manners, deep_thing, dice_of, listed, random_book, same, shaft_of, spoilt
from manrods.errors import NoPlace, TooMuch
from manrods.meetings import meeting
from manrods.menruns import (
    all_come, barred_rows, comes, crowd_far, crowd_rows, day_round, is_day, late_by, lost_by, made_behind)
from manrods.rests import barred, crowd_behind, first_crowd, is_crowd
from manrods.rides import colour_of, end_of, is_riser, mark_of
from manrods.shafts import platforms

NARROW, WIDE = (4, False, (0, 2, 2, 2, 2)), (4, True, (0, 2, 2, 2, 2))
SHAFTS = (NARROW, WIDE)
HOIST, CALM = ((4, 0, 0), (0, 4, 0)), ((), (), True, 5)


class Own:
    """A run by the words of [10], all that is asked of it noted rest by rest."""

    def __init__(self, shaft, book, day, many):
        self.shaft, self.book, self.day = shaft, book, day
        self.crowds, self.mades, self.fresh = [first_crowd(book)], [0], [True]
        self.bars, self.late = [], {}
        for rest in range(many):
            self.rest(rest)

    def rest(self, rest):
        calls, broken, moved, top = self.day[rest] if rest < len(self.day) else ((), *self.day[-1][1:])
        made, fresh = self.mades[-1], self.fresh[-1]
        men, aims = self.crowds[-1][0], list(self.crowds[-1][1])
        for man, to in calls:
            if men[man] != ("lost",):
                aims[man] = (to, made)
        called = (men, tuple(aims))
        self.bars.extend([(rest, man) for man in barred(self.shaft, made, fresh, called, broken)])
        dry = crowd_behind(self.shaft, made, fresh, called, broken, False, self.shaft[0] + 1)
        for man, place in enumerate(men):
            # The AIM of a rider goes out only where he steps off, or is lost.
            if place[0] == "rod" and dry[1][man] is None and dry[0][man] != ("lost",):
                start, to, ready = self.book[man]
                self.late.setdefault(man, made - ready - abs(start - to))
        self.crowds.append(crowd_behind(self.shaft, made, fresh, called, broken, moved, top))
        self.mades.append(made + moved)
        self.fresh.append(moved)

    def seen(self, rest):
        men, aims = self.crowds[rest]
        shown = [None if aim is None else (aim[0], max(0, aim[1] - self.mades[rest])) for aim in aims]
        return (men, tuple(shown), self.mades[rest] % 2, self.fresh[rest])

    def round(self):
        """The least pair by going through all pairs."""
        rows = [self.seen(rest) for rest in range(len(self.crowds))]
        for many in range(len(self.day), len(rows)):
            for behind in range(many + 1, len(rows)):
                if rows[many] == rows[behind]:
                    return (many, behind - many)
        return None


def random_turn(dice, shaft, book):
    deep = shaft[0]
    calls = tuple([(man, dice.randint(0, deep)) for man in range(len(book)) if dice.random() < 0.2])
    broken = tuple([platform for platform in platforms(shaft) if dice.random() < 0.1])
    top = deep + 1 if dice.random() < 0.8 else dice.randint(1, deep)
    return (calls if dice.random() < 0.5 else (), broken if dice.random() < 0.3 else (), dice.random() < 0.8, top)


def random_case(dice, last=8):
    deep = dice.choice((2, 3, 4, 6))
    shaft = (deep, dice.random() < 0.5, (0,) + tuple([dice.randint(6, 7) for _ in range(deep)]))
    book = random_book(dice, deep, dice.randint(0, 6), last)
    day = tuple([random_turn(dice, shaft, book) for _ in range(dice.randint(1, 6))])
    return shaft, book, day


class Days(unittest.TestCase):

    def test_days(self):
        good = [
            (CALM,), (CALM,) * 50, (((), (), False, 1),), ((((0, 0), (1, 4)), ((0, 0), (0, 3), (1, 1), (1, 4)), True, 3), CALM),
            ((((1, 0),), (), True, 5),)]
        for day in good:
            for shaft in SHAFTS:
                self.assertIs(is_day(day, shaft, HOIST), True, day)
                self.assertIs(is_day(day, listed(shaft), listed(HOIST)), True, day)
                self.assertIs(is_day(list(day), shaft, HOIST), False, day)
                self.assertIs(is_day((list(day[0]),), shaft, HOIST), False, day)

    def test_no_days(self):
        turns = [
            (((0, 5),), (), True, 5), (((0, -1),), (), True, 5), (((2, 0),), (), True, 5), (((-1, 0),), (), True, 5),
            (((0, 0), (0, 1)), (), True, 5), (((1, 0), (0, 1)), (), True, 5), (((0, 0), (0, 0)), (), True, 5),
            (((True, 0),), (), True, 5), (((0, True),), (), True, 5), (((0, 0, 0),), (), True, 5), (((0,),), (), True, 5),
            ((0, 0), (), True, 5), (([0, 0],), (), True, 5), ([(0, 0)], (), True, 5), (None, (), True, 5),
            ((), ((0, 4),), True, 5), ((), ((1, 0),), True, 5), ((), ((1, 1), (0, 0)), True, 5), ((), ((0, 0), (0, 0)), True, 5),
            ((), ((0, True),), True, 5), ((), ([0, 0],), True, 5), ((), [(0, 0)], True, 5), ((), (0, 0), True, 5),
            ((), (), 1, 5), ((), (), 0, 5), ((), (), None, 5), ((), (), True, 0), ((), (), True, 6), ((), (), True, -1),
            ((), (), True, True), ((), (), True, None), ((), (), True), ((), (), True, 5, 5), (((None, 0),), (), True, 5)]
        for shaft in SHAFTS:
            for turn in turns:
                self.assertIs(is_day((turn,), shaft, HOIST), False, turn)
                self.assertIs(is_day((CALM, turn), shaft, HOIST), False, turn)
            for thing in [*ODD_THINGS, deep_thing(100), CALM]:
                self.assertIs(is_day(thing, shaft, HOIST), False, thing)
        self.assertIs(is_day((((0, 0),), (), True, 5), NARROW, ()), False)

    def test_spoilt_days(self):
        day = ((((0, 1), (1, 2)), ((0, 2), (1, 2)), True, 3), CALM)
        good = [thing for thing in spoilt(day) if is_day(thing, NARROW, HOIST)]
        for thing in good:
            self.assertTrue(self.is_day_by_hand(thing), thing)
        found = [thing for thing in spoilt(day) if self.is_day_by_hand(thing)]
        self.assertEqual(len(good), len(found))
        self.assertGreater(len(good), 5)

    def is_day_by_hand(self, thing):
        """For what is spoilt in one place only: sets are fit if they are sorted without doubles."""
        if type(thing) is not tuple or not thing or any([type(turn) is not tuple or len(turn) != 4 for turn in thing]):
            return False
        for calls, broken, moved, top in thing:
            for row in (calls, broken):
                if type(row) is not tuple or any([type(part) is not tuple or len(part) != 2 for part in row]):
                    return False
                if any([type(number) is not int for part in row for number in part]) or list(row) != sorted(set(row)):
                    return False
            if any([man not in (0, 1) or to not in range(5) for man, to in calls]) or len(dict(calls)) < len(calls):
                return False
            if any([platform not in platforms(NARROW) for platform in broken]):
                return False
            if type(moved) is not bool or type(top) is not int or top not in range(1, 6):
                return False
        return True


class Rows(unittest.TestCase):

    def test_against_own_run(self):
        dice = dice_of("menruns")
        answers = {}
        for _ in range(160):
            shaft, book, day = random_case(dice)
            self.assertTrue(is_day(day, shaft, book))
            self.assertTrue(is_crowd(first_crowd(book), shaft, 0))
            own = Own(shaft, book, day, 45)
            many = dice.choice((0, 1, 5, 30))
            rows = crowd_rows(shaft, book, day, many)
            self.assertTrue(same(rows, own.crowds[:many + 1]), (shaft, book, day))
            self.assertEqual([made_behind(day, rest) for rest in range(46)], own.mades)
            for man in range(len(book)):
                have = [rest for rest in range(many + 1) if own.crowds[rest][1][man] is None
                        and own.crowds[rest][0][man] != ("lost",)]
                self.assertEqual(comes(shaft, book, day, man, many), have[0] if have else None)
            done = [rest for rest in range(many + 1) if own.crowds[rest][1] == (None,) * len(book)]
            self.assertEqual(all_come(shaft, book, day, many), done[0] if done else None)
            lost = tuple([man for man, place in enumerate(rows[many][0]) if place == ("lost",)])
            self.assertTrue(same(lost_by(shaft, book, day, many), lost))
            self.assertTrue(same(barred_rows(shaft, book, day, many), [row for row in own.bars if row[0] < many]))
            short = Own(shaft, book, day, many)
            late = tuple([short.late.get(man) for man in range(len(book))])
            self.assertTrue(same(late_by(shaft, book, day, many), late))
            for name, answer in (("lost", bool(lost)), ("done", bool(done)), ("late", None in late), ("bars", bool(own.bars))):
                answers[name, answer] = True
        self.assertEqual(len(answers), 8)

    def test_rounds_against_all_pairs(self):
        dice = dice_of("rounds")
        lengths = {}
        for _ in range(120):
            shaft, book, day = random_case(dice, 4)
            own = Own(shaft, book, day, 60)
            expected = own.round()
            if expected is None:
                continue
            self.assertTrue(same(day_round(shaft, book, day), expected), (shaft, book, day))
            lengths[expected[1]] = True
            for rest in (0, 1, len(day), sum(expected), 59, 60):
                self.assertTrue(same(crowd_far(shaft, book, day, rest), own.crowds[rest]))
            first, length = expected
            for far in (10 ** 12, 10 ** 12 - 1, 10 ** 12 - 3):
                self.assertTrue(same(crowd_far(shaft, book, day, far), own.crowds[first + (far - first) % length]))
        self.assertGreater(len(lengths), 1)

    def test_calls(self):
        day = ((((0, 4),), (), True, 5), CALM, (((0, 0), (1, 0)), (), True, 5))
        rows = crowd_rows(WIDE, HOIST, day, 9)
        # Who is called to where he stands aside has come at once; called again he boards from then on.
        self.assertEqual([row[1][0] for row in rows[:4]], [(0, 0), None, None, (0, 2)])
        self.assertEqual(rows[3][0][0], ("rod", 1, 3))
        self.assertEqual(comes(WIDE, HOIST, day, 0, 9), 1)
        self.assertEqual(late_by(WIDE, HOIST, day, 9), (2, 0))
        # The last TURN goes on without its calls.
        again = ((((0, 0),), (), True, 5),)
        self.assertEqual(comes(WIDE, ((4, 3, 9),), again, 0, 9), 5)
        self.assertEqual(crowd_rows(WIDE, ((4, 3, 9),), again, 9)[9], ((("grass",),), (None,)))

    def test_who_is_lost_is_not_called(self):
        day = (((), (), True, 3), (((0, 0), (1, 3)), (), True, 5))
        for shaft in SHAFTS:
            rows = crowd_rows(shaft, HOIST, day, 6)
            self.assertEqual([row[1][0] for row in rows], [(0, 0)] + [None] * 6)
            self.assertEqual(rows[2][1][1], (3, 1))
            self.assertEqual(lost_by(shaft, HOIST, day, 0), ())
            self.assertEqual(lost_by(shaft, HOIST, day, 6), (0,))
            self.assertEqual(late_by(shaft, HOIST, day, 6), (None, -1))
            self.assertEqual(all_come(shaft, HOIST, day, 6), 4)
            self.assertIsNone(comes(shaft, HOIST, day, 0, 6))

    def test_calls_count_at_the_rest_at_which_they_are_done(self):
        day = (CALM, (((0, 0),), (), True, 5))
        book = ((4, 3, 10 ** 6), (4, 3, 1))
        # Man 0 is called at rest 1 and boards ahead of man 1, who is barred then.
        self.assertEqual(barred_rows(NARROW, book, day, 4), [(1, 1)])

    def test_missed_strokes(self):
        halt = ((), (), False, 5)
        self.assertEqual([made_behind((halt, CALM), many) for many in (0, 1, 2, 10 ** 12)], [0, 0, 1, 10 ** 12 - 1])
        self.assertEqual([made_behind((CALM, halt), many) for many in (0, 1, 2, 10 ** 12)], [0, 1, 1, 1])
        self.assertEqual(made_behind((CALM, halt, CALM), 10 ** 12), 10 ** 12 - 1)
        self.assertEqual(day_round(WIDE, HOIST, (halt,)), (1, 1))
        self.assertEqual(comes(WIDE, HOIST, (halt, halt, CALM), 0, 9), 7)
        self.assertEqual(late_by(WIDE, HOIST, (halt, halt, CALM), 9), (0, 0))

    def test_broken_platforms(self):
        day = (CALM, ((), ((0, 2), (1, 3)), True, 5))
        for shaft in SHAFTS:
            self.assertEqual(lost_by(shaft, ((4, 0, 0),), day, 9), ())
            self.assertEqual(crowd_far(shaft, ((4, 0, 0),), day, 10 ** 12)[0][0][:2], ("rod", 1))
            lost = (CALM, ((), ((1, 4),), True, 5))
            self.assertEqual(lost_by(shaft, ((4, 0, 0),), lost, 2), (0,))
            self.assertIsNone(late_by(shaft, ((4, 0, 0),), lost, 9)[0])

    def test_no_men_and_no_rests(self):
        for shaft in SHAFTS:
            self.assertEqual(crowd_rows(shaft, (), (CALM,), 1), [((), ()), ((), ())])
            self.assertEqual(day_round(shaft, (), (CALM,)), (1, 2))
            self.assertEqual(all_come(shaft, (), (CALM,), 0), 0)
            self.assertEqual((lost_by(shaft, (), (CALM,), 9), late_by(shaft, (), (CALM,), 9)), ((), ()))
            self.assertEqual(crowd_rows(shaft, HOIST, (CALM,), 0), [first_crowd(HOIST)])
            self.assertIsNone(all_come(shaft, HOIST, (CALM,), 0))
            self.assertEqual(barred_rows(shaft, HOIST, (CALM,), 0), [])
            self.assertEqual(late_by(shaft, HOIST, (CALM,), 0), (None, None))

    def test_no_place(self):
        for man in (-1, 2, 3, 10 ** 12):
            with self.assertRaises(NoPlace) as caught:
                comes(WIDE, HOIST, (CALM,), man, 9)
            self.assertEqual(caught.exception.place, man)


class Far(unittest.TestCase):

    def test_too_much(self):
        # He is off behind rest 397; behind two more the same is seen again.
        near, next_one = ((4, 0, 393),), ((4, 0, 394),)
        self.assertEqual(day_round(WIDE, near, (CALM,)), (398, 2))
        self.assertEqual(crowd_far(WIDE, near, (CALM,), 10 ** 12), ((("grass",),), (None,)))
        self.assertEqual(crowd_far(WIDE, near, (CALM,), 3), first_crowd(near))
        self.check_too_much(next_one, (CALM,))

    def check_too_much(self, book, day):
        with self.assertRaises(TooMuch):
            day_round(WIDE, book, day)
        for many in (0, 1, 5, 10 ** 12):
            with self.assertRaises(TooMuch):
                crowd_far(WIDE, book, day, many)

    def test_long_days(self):
        still = ((), (), False, 5)
        self.assertEqual(day_round(WIDE, (), (CALM,) * 398), (398, 2))
        self.check_too_much((), (CALM,) * 399)
        self.assertEqual(day_round(WIDE, (), (still,) * 399), (399, 1))
        self.check_too_much((), (still,) * 400)
        self.check_too_much((), (CALM,) * 500)

    def test_far_ready(self):
        self.check_too_much(((4, 0, 10 ** 6),), (CALM,))
        # While no stroke is made the same is seen at once, and far readies stay as they are.
        still = (((), (), False, 5),)
        self.assertEqual(day_round(WIDE, ((4, 0, 10 ** 6),), still), (1, 1))
        self.assertEqual(crowd_far(WIDE, ((4, 0, 10 ** 6),), still, 10 ** 12), first_crowd(((4, 0, 10 ** 6),)))

    def test_readies_above_made_are_seen(self):
        # He never boards, so his ready alone tells the rests apart until made is 5.
        shut = (((), ((0, 3), (1, 4)), True, 5),)
        for shaft in SHAFTS:
            self.assertEqual(day_round(shaft, ((4, 0, 5),), shut), (5, 2))
            self.assertEqual(day_round(shaft, ((4, 0, 0),), shut), (1, 2))

    def test_a_thousand_rests(self):
        rows = crowd_rows(NARROW, HOIST, (CALM,), 1000)
        self.assertEqual(len(rows), 1001)
        self.assertEqual(rows[1000], crowd_far(NARROW, HOIST, (CALM,), 1000))
        self.assertEqual(len(barred_rows(NARROW, HOIST, (CALM,), 1000)), 998)


class Guarantees(unittest.TestCase):

    def test_who_boards_comes_in_time(self):
        dice = dice_of("in time")
        checked = {True: 0, False: 0}
        for _ in range(150):
            deep = dice.choice((3, 4, 6))
            shaft = shaft_of(deep, dice.random() < 0.5, 12)
            book = random_book(dice, deep, dice.randint(1, 6), 9)
            rows = crowd_rows(shaft, book, (((), (), True, deep + 1),), 60)
            boards = []
            for man in range(len(book)):
                rides = [made for made, row in enumerate(rows) if row[0][man][0] == "rod"]
                boards.append(rides[0] - 1 if rides else 60)
            taken = [(*ride[:2], board) for ride, board in zip(book, boards)]
            if not shaft[1] and any([self.overlap(one, two) for one in taken for two in taken]):
                continue
            checked[shaft[1]] += 1
            for man, ride in enumerate(book):
                arrival = end_of(ride, boards[man]) + 1
                self.assertEqual(comes(shaft, book, (((), (), True, deep + 1),), man, 70), arrival)
        self.assertGreater(min(checked.values()), 20)

    def overlap(self, one, two):
        if not is_riser(one) or is_riser(two):
            return False
        colours = [colour_of(mark_of(ride, ride[2])) for ride in (one, two)]
        return colours[0] == colours[1] and meeting(one, two) is not None


class Manners(unittest.TestCase):

    def test_manners(self):
        day = (CALM, (((0, 0), (1, 1)), ((0, 1), (1, 3)), False, 4), CALM)
        for shaft in SHAFTS:
            check_manners(self, is_day, {"thing": day, "shaft": shaft, "book": HOIST}, ("thing",))
            named = {"shaft": shaft, "book": HOIST, "day": day}
            check_manners(self, day_round, named)
            check_manners(self, day_round, {**named, "book": ((4, 0, 10 ** 6), (0, 4, 0))})
            for call in (crowd_rows, crowd_far, all_come, lost_by, barred_rows, late_by):
                for many in (0, 2, 12):
                    check_manners(self, call, {**named, "many": many})
            for man in (0, 1, 2):
                check_manners(self, comes, {**named, "man": man, "many": 12})
        check_manners(self, made_behind, {"day": day, "many": 10 ** 12})


if __name__ == "__main__":
    unittest.main()
