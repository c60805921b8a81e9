"""[11]: changes of shift."""

import itertools
import unittest

from helpers import (
    ODD_THINGS, check_manners, deep_thing, dice_of, listed, outcome, random_book, same, shaft_of, spoilt)
from manrods.changes import (
    book_end, fewest_stages, in_turn, is_change, is_plan, least_plan, level_end, staged_ends, wide_end)
from manrods.errors import CanNot, TooMuch, Unfit
from manrods.meetings import clashes
from manrods.rides import is_riser
from manrods.shafts import faced_level, level_behind, riser_platform, sinker_platform
from manrods.waits import hinder, is_free

NARROW, WIDE = shaft_of(4, False, 0), shaft_of(4, True, 0)
SHAFTS = (NARROW, WIDE)


def all_changes(deep, most):
    """All CHANGES of at most so many men."""
    for many in range(most + 1):
        for ups in range(many + 1):
            levels = range(1, deep + 1)
            for one in itertools.combinations_with_replacement(levels, ups):
                for two in itertools.combinations_with_replacement(levels, many - ups):
                    yield (one, two)


def random_change(dice, deep, many):
    """A CHANGE of so many men."""
    ups = dice.randint(0, many)
    return (tuple(sorted(dice.randint(1, deep) for _ in range(ups))),
            tuple(sorted(dice.randint(1, deep) for _ in range(many - ups))))


def ways_of(change):
    return [(level, 0) for level in change[0]] + [(0, level) for level in change[1]]


def least_end_by_all(shaft, change):
    """The least end of a PLAN, by going through all readies man by man, end by end."""
    ways = ways_of(change)
    end = max([max(way) for way in ways], default=0)
    while not can_end(shaft, ways, (), end):
        end += 1
    return end


def can_end(shaft, ways, book, end):
    """Whether more RIDES, to all of ways, can be put behind book so that it is free and ends by end."""
    if len(book) == len(ways):
        return True
    start, to = ways[len(book)]
    for ready in range(end - max(start, to) + 1):
        ride = (start, to, ready)
        if not any([hinder(shaft, ride, other) for other in book]) and can_end(shaft, ways, (*book, ride), end):
            return True
    return False


class Play:
    """A narrow shaft with stages, played platform by platform, all men by one rule: the way out of a meeting
    is that the sinker steps aside. Raises CanNot where he cannot, AssertionError if anybody else is held up."""

    def __init__(self, shaft, book, stages):
        self.shaft, self.book, self.stages = shaft, book, stages
        self.on = {}
        self.free_from = {man: (ride[0], ride[2]) for man, ride in enumerate(book)}
        self.ends = [None] * len(book)
        made = 0
        while None in self.ends:
            self.rest(made)
            made += 1

    def way(self, man, level, made):
        if is_riser(self.book[man]):
            return riser_platform(self.shaft, level, made)
        return sinker_platform(self.shaft, level, made)

    def rest(self, made):
        for platform, man in sorted(self.on.items()):
            if faced_level(platform, made) == self.book[man][1]:
                self.ends[man] = made
                del self.on[platform]
        self.step_aside(made)
        crossed = {}
        for platform, man in self.on.items():
            want = self.way(man, faced_level(platform, made), made)
            assert want not in crossed and self.on.get(want) in (None, man)
            crossed[want] = man
        for man in sorted(self.free_from):
            level, since = self.free_from[man]
            if since > made:
                continue
            want = self.way(man, level, made)
            if want in crossed:
                assert not is_riser(self.book[man])
                continue
            crossed[want] = man
            del self.free_from[man]
        self.on = crossed
        for platform in self.on:
            level = faced_level(platform, made)
            assert faced_level(platform, made + 1) == level_behind(platform[0], level, made)

    def step_aside(self, made):
        for platform, man in sorted(self.on.items()):
            level = faced_level(platform, made)
            want = self.way(man, level, made)
            if is_riser(self.book[man]) or want == platform or want not in self.on:
                continue
            assert is_riser(self.book[self.on[want]])
            if level not in self.stages:
                raise CanNot()
            del self.on[platform]
            self.free_from[man] = (level, made + 1)


def played_ends(shaft, book, stages):
    return tuple(Play((shaft[0], False, shaft[2]), book, stages).ends)


def subsets(levels):
    for many in range(len(levels) + 1):
        yield from itertools.combinations(levels, many)


def random_calm_book(dice, deep, many, last):
    """A BOOK of at most so many RIDES without clashes."""
    book = ()
    for ride in random_book(dice, deep, many, last):
        if not clashes((*book, ride)):
            book = (*book, ride)
    return book


class Things(unittest.TestCase):

    def test_changes(self):
        good = [((), ()), ((1,), ()), ((), (4,)), ((1, 1, 4), (2, 3, 3)), ((4,) * 200, (1,) * 300)]
        for shaft in SHAFTS:
            for change in good:
                self.assertIs(is_change(change, shaft), True, change)
                self.assertIs(is_change(change, listed(shaft)), True)
                self.assertIs(is_change(list(change), shaft), False)
                self.assertIs(is_change((list(change[0]), change[1]), shaft), False)
            bad = [((2, 1), ()), ((), (4, 3, 4)), ((0,), ()), ((), (0, 1)), ((5,), ()), ((), (1, 5)), ((True,), ()),
                   ((-1,), ()), ((1,), (None,)), ((1,),), ((1,), (1,), ()), ((1, (2,)), ()), ("ab", ()), (((1,),), ()), deep_thing(100)]
            for thing in [*bad, *[thing for thing in ODD_THINGS if thing != ((), ())]]:
                fine = thing == ((1, 2), (3, 4))
                self.assertIs(is_change(thing, shaft), fine, thing)

    def test_spoilt_changes(self):
        change = ((1, 3), (2, 2))
        found = 0
        for thing in spoilt(change):
            parts = isinstance(thing, tuple) and len(thing) == 2 and all([isinstance(part, tuple) for part in thing])
            good = parts and all([type(level) is int and 1 <= level <= 4 for part in thing for level in part])
            good = good and all([list(part) == sorted(part) for part in thing])
            self.assertIs(is_change(thing, NARROW), good, thing)
            found += good
        self.assertGreater(found, 3)

    def test_plans(self):
        change, plan = ((4, 4), (4,)), ((4, 0, 0), (4, 0, 1), (0, 4, 4))
        for shaft in SHAFTS:
            self.assertIs(is_plan(plan, shaft, change), True)
            self.assertIs(is_plan(plan, listed(shaft), listed(change)), True)
            self.assertIs(is_plan((), shaft, ((), ())), True)
            for thing in [*spoilt(plan), *ODD_THINGS, deep_thing(100)]:
                # A ready that is far off is the only change that keeps it a PLAN.
                self.assertIs(is_plan(thing, shaft, change), self.is_later(thing), (thing, shaft))
            for other in (((4,), (4,)), ((4, 4), (3,)), ((3, 4), (4,)), ((4, 4, 4), ()), ((), (4, 4, 4)), ((), ())):
                self.assertIs(is_plan(plan, shaft, other), False)

    def is_later(self, thing):
        if not isinstance(thing, tuple) or len(thing) != 3:
            return False
        if not all([isinstance(ride, tuple) and len(ride) == 3 for ride in thing]):
            return False
        return [ride[:2] for ride in thing] == [(4, 0), (4, 0), (0, 4)] and 10 ** 20 in [ride[2] for ride in thing]

    def test_what_is_no_plan(self):
        self.assertIs(is_plan(((4, 0, 0), (0, 4, 0)), NARROW, ((4,), (4,))), False)
        self.assertIs(is_plan(((4, 0, 0), (0, 4, 0)), WIDE, ((4,), (4,))), True)
        self.assertIs(is_plan(((4, 0, 3), (4, 0, 3)), WIDE, ((4, 4), ())), False)
        self.assertIs(is_plan(((0, 4, 1), (4, 0, 0)), NARROW, ((4,), (4,))), False)
        self.assertIs(is_plan(((4, 0, 5), (3, 0, 0)), NARROW, ((3, 4), ())), False)
        self.assertIs(is_plan(((3, 0, 0), (4, 0, 5)), NARROW, ((3, 4), ())), True)
        self.assertIs(is_plan(((3, 0, 0), (4, 0, -1)), NARROW, ((3, 4), ())), False)
        self.assertIs(is_plan(((3, False, 0), (4, 0, 5)), NARROW, ((3, 4), ())), False)


class Ends(unittest.TestCase):

    def test_book_end(self):
        self.assertEqual(book_end(()), 0)
        self.assertEqual(book_end(((4, 1, 7),)), 10)
        self.assertEqual(book_end(((4, 0, 0), (1, 2, 9), (0, 4, 3))), 10)
        self.assertEqual(book_end(((0, 40, 10 ** 12), (3, 0, 5))), 10 ** 12 + 40)

    def test_wide_end(self):
        for change in all_changes(4, 4):
            self.assertEqual(wide_end(change), least_end_by_all(WIDE, change), change)
        dice = dice_of("wide")
        for _ in range(60):
            change = random_change(dice, 7, 6)
            self.assertEqual(wide_end(change), least_end_by_all(shaft_of(7, True), change), change)
        self.assertEqual((wide_end(((), ())), wide_end(((40,) * 40, (40,) * 40))), (0, 79))
        self.assertEqual(wide_end(((1, 1, 1, 40), (1,) * 39)), 40)

    def test_level_end_by_all(self):
        for level in range(1, 7):
            shaft = shaft_of(max(2, level), False)
            for up, down in itertools.product(range(6), range(6)):
                if up + down > 6:
                    continue
                change = ((level,) * up, (level,) * down)
                expected = book_end(least_plan(shaft, change))
                self.assertEqual(level_end(level, up, down), expected, (level, up, down))
        for level, up, down in ((2, 2, 2), (3, 2, 2), (4, 3, 1), (5, 1, 3), (3, 3, 2), (4, 2, 3)):
            found = least_end_by_all(shaft_of(level, False), ((level,) * up, (level,) * down))
            self.assertEqual(level_end(level, up, down), found, (level, up, down))

    def test_level_end_of_classes(self):
        # Who hinders whom by the guarantee alone: for each made of boarding a riser, a sinker, both or nobody.
        for level in (2, 3, 4, 5):
            for last in range(10):
                fit = self.pairs_that_fit(level, last)
                for up, down in itertools.product(range(last + 3), range(last + 3)):
                    expected = any([up <= ups and down <= downs for ups, downs in fit])
                    self.assertIs(level_end(level, up, down) <= last + level, expected or up + down == 0)

    def pairs_that_fit(self, level, last):
        rows = {((), ())}
        for made in range(last + 1):
            following = set()
            for ups, downs in rows:
                for one, two in itertools.product((0, 1), (0, 1)):
                    more_ups, more_downs = ups + (made,) * one, downs + (made,) * two
                    new = [(u, t) for u in more_ups for t in more_downs if made in (u, t)]
                    if not any([(u - t - level) % 2 == 0 and abs(u - t) < level for u, t in new]):
                        following.add((more_ups, more_downs))
            rows = following
        return {(len(ups), len(downs)) for ups, downs in rows}

    def test_level_end_one_kind_alone(self):
        for level in (1, 2, 7, 40):
            self.assertEqual(level_end(level, 0, 0), 0)
            for many in (1, 2, 5, 10 ** 12):
                self.assertEqual(level_end(level, many, 0), many - 1 + level)
                self.assertEqual(level_end(level, 0, many), many - 1 + level)
                self.assertEqual(level_end(1, many, many), many)

    def test_level_end_far(self):
        far = 10 ** 12
        self.assertEqual(level_end(4, far, far), 2 * far + 3)
        for level, up, down in ((2, far, 1), (3, far, 3), (40, far, 10 ** 6), (39, far + 1, far), (40, 5, far)):
            end = level_end(level, up, down)
            # One more of each kind takes two mades more of each, as long as both kinds are many.
            self.assertEqual(level_end(level, down, up), end)
            self.assertGreaterEqual(end, max(up, down) - 1 + level)
            self.assertLessEqual(end, 2 * max(up, down) - 1 + level)
            self.assertEqual(level_end(level, up + 1000, down + 1000), end + 2000)


class Plans(unittest.TestCase):

    def test_least_plan_by_all(self):
        for shaft in (shaft_of(3, False), shaft_of(3, True)):
            for change in all_changes(3, 4):
                self.check_plan(shaft, change, least_end_by_all(shaft, change))

    def test_least_plan_of_deeper_ones(self):
        dice = dice_of("least plan")
        for _ in range(40):
            deep = dice.choice((4, 5, 6))
            shaft, change = shaft_of(deep, dice.random() < 0.3), random_change(dice, deep, dice.randint(3, 5))
            self.check_plan(shaft, change, least_end_by_all(shaft, change))

    def check_plan(self, shaft, change, end):
        plan = least_plan(shaft, change)
        self.assertIs(is_plan(plan, shaft, change), True, (plan, change))
        self.assertEqual(book_end(plan), end, (plan, change))

    def test_six_in_a_deep_shaft(self):
        shaft = shaft_of(40, False)
        for change, end in ((((40,) * 3, (40,) * 3), 45), (((40,), (38, 39, 40, 40, 40)), 46), (((1, 2), (1, 2, 3, 4)), 5)):
            self.check_plan(shaft, change, end)

    def test_too_much(self):
        for shaft in SHAFTS:
            for change in (((1,) * 7, ()), ((), (4,) * 7), ((1, 2, 3, 4), (1, 2, 3)), ((4,) * 40, (4,) * 40)):
                with self.assertRaises(TooMuch):
                    least_plan(shaft, change)
            self.assertEqual(least_plan(shaft, ((), ())), ())

    def test_in_turn(self):
        for shaft in (shaft_of(3, False), shaft_of(3, True)):
            for change in all_changes(3, 3):
                for order in itertools.permutations(range(len(change[0] + change[1]))):
                    self.check_in_turn(shaft, change, order)
        dice = dice_of("in turn")
        for _ in range(60):
            deep = dice.randint(2, 9)
            change = random_change(dice, deep, dice.randint(4, 9))
            order = list(range(len(change[0] + change[1])))
            dice.shuffle(order)
            self.check_in_turn(shaft_of(deep, dice.random() < 0.3), change, tuple(order))

    def check_in_turn(self, shaft, change, order):
        ways, placed = ways_of(change), {}
        for man in order:
            ready = 0
            while any([hinder(shaft, (*ways[man], ready), other) for other in placed.values()]):
                ready += 1
            placed[man] = (*ways[man], ready)
        found = in_turn(shaft, change, order)
        self.assertTrue(same(found, tuple([placed[man] for man in range(len(ways))])), (shaft, change, order))
        self.assertIs(is_plan(found, shaft, change), True)

    def test_in_turn_of_many(self):
        plan = in_turn(shaft_of(40, False), ((40,) * 20, (40,) * 20), tuple(range(40)))
        self.assertIs(is_free(shaft_of(40, False), plan), True)
        self.assertEqual([ride[2] for ride in plan[:20]], list(range(20)))

    def test_orders_that_are_none(self):
        change = ((4, 4), (4,))
        orders = [(), (0,), (0, 1), (0, 0, 1), (0, 1, 1), (0, 1, 3), (1, 2, 3), (-1, 0, 1), (0, 1, 2, 2), (0, 1, 2, 3),
                  (0, 1, None), (0, 1, "2"), (0, 1, (2,)), (False, True, 2), None, 3]
        for shaft in SHAFTS:
            for order in orders:
                with self.assertRaises(Unfit):
                    in_turn(shaft, change, order)
            with self.assertRaises(Unfit):
                in_turn(shaft, ((), ()), (0,))
            self.assertEqual(in_turn(shaft, ((), ()), ()), ())


class Stages(unittest.TestCase):

    def test_staged_ends(self):
        dice = dice_of("staged")
        raised = waited = 0
        for _ in range(1500):
            deep = dice.randint(2, 7)
            shaft = shaft_of(deep, dice.random() < 0.5, 0)
            book = random_calm_book(dice, deep, dice.randint(0, 14), dice.choice((3, 6, 12)))
            share = dice.choice((0.5, 0.8, 1))
            stages = tuple([level for level in range(1, deep) if dice.random() < share])
            expected = outcome(played_ends, shaft, book, stages)
            self.assertTrue(same(outcome(staged_ends, shaft, book, stages), expected), (shaft, book, stages))
            raised += expected[0] == "error"
            if expected[0] == "value":
                free = tuple([ride[2] + abs(ride[0] - ride[1]) for ride in book])
                waited += any([one > two + 1 for one, two in zip(expected[1], free)])
                self.assertTrue(all([one >= two for one, two in zip(expected[1], free)]))
        self.assertGreater(raised, 100)
        self.assertGreater(waited, 30)

    def test_who_waits_for_whom(self):
        # At level 2 man 1 steps aside for man 0 at made 2; man 2 sinks on through it at made 3.
        book = ((4, 0, 0), (0, 4, 0), (0, 3, 1))
        self.assertEqual(staged_ends(NARROW, book, (2,)), (4, 6, 4))
        # Who boards at level 2 for the first time has to wait likewise, and the lesser place goes first.
        self.assertEqual(staged_ends(NARROW, ((4, 0, 0), (0, 4, 0), (2, 3, 3)), (2,)), (4, 5, 5))
        self.assertEqual(staged_ends(NARROW, ((4, 0, 0), (2, 3, 3), (0, 4, 0)), (2,)), (4, 4, 6))
        # Two who are aside at one level, one behind the other.
        self.assertEqual(staged_ends(NARROW, ((4, 0, 0), (4, 0, 1), (0, 4, 0), (0, 4, 1)), (2,)), (4, 5, 5, 6))

    def test_far_readies(self):
        far = 10 ** 6
        book = ((4, 0, far), (0, 4, far), (0, 3, far + 1), (3, 0, 0), (0, 1, 3 * far))
        self.assertEqual(staged_ends(WIDE, book, (2,)), (far + 4, far + 6, far + 4, 3, 3 * far + 1))

    def test_no_meetings(self):
        for shaft in SHAFTS:
            self.assertEqual(staged_ends(shaft, (), ()), ())
            self.assertEqual(staged_ends(shaft, ((4, 0, 0), (0, 4, 1)), ()), (4, 5))
            self.assertEqual(fewest_stages(shaft, ()), ())
            self.assertEqual(fewest_stages(shaft, ((4, 0, 0), (0, 4, 1))), ())

    def test_errors(self):
        meet, clash = ((4, 0, 0), (0, 4, 0)), ((4, 0, 0), (3, 0, 1), (0, 4, 0))
        for shaft in SHAFTS:
            for stages in ((), (1,), (3,), (1, 3)):
                with self.assertRaises(CanNot):
                    staged_ends(shaft, meet, stages)
                for book in (clash, ((0, 4, 0), (0, 1, 0)), ((4, 0, 0), (0, 4, 0), (2, 3, 2), (4, 0, 9))):
                    with self.assertRaises(Unfit):
                        staged_ends(shaft, book, stages)
                    with self.assertRaises(Unfit):
                        fewest_stages(shaft, book)

    def test_fewest_stages(self):
        dice = dice_of("fewest stages")
        sizes = {}
        for _ in range(250):
            deep = dice.randint(2, 7)
            shaft = shaft_of(deep, dice.random() < 0.5, 0)
            book = random_calm_book(dice, deep, dice.randint(2, 10), dice.choice((3, 6)))
            good = [stages for stages in subsets(range(1, deep)) if outcome(staged_ends, shaft, book, stages)[0] == "value"]
            least = min(good, key=lambda stages: (len(stages), stages))
            self.assertTrue(same(fewest_stages(shaft, book), least), (shaft, book))
            sizes[len(least)] = True
        self.assertGreater(len(sizes), 3)

    def test_all_levels_are_needed(self):
        # One sinker for each level, who goes over just two strides and meets the riser between them.
        for deep in (2, 5, 8):
            book = ((deep, 0, deep), *[(level - 1, level + 1, 2 * deep - level - 1) for level in range(1, deep)])
            for shaft in (shaft_of(deep, False), shaft_of(deep, True)):
                self.assertEqual(fewest_stages(shaft, book), tuple(range(1, deep)))
                self.assertEqual(fewest_stages(shaft, book[:-1]), tuple(range(1, deep - 1)))


class Manners(unittest.TestCase):

    def test_manners(self):
        change, both = ((2, 4, 4), (1, 3, 3)), ((4, 4), (4,))
        meet = ((4, 0, 0), (0, 4, 0), (0, 3, 1))
        check_manners(self, book_end, {"book": meet})
        check_manners(self, wide_end, {"change": change})
        check_manners(self, level_end, {"level": 4, "up": 10, "down": 1})
        for shaft in SHAFTS:
            check_manners(self, is_change, {"thing": change, "shaft": shaft}, ("thing",))
            plan = ((4, 0, 0), (4, 0, 1), (0, 4, 4))
            check_manners(self, is_plan, {"thing": plan, "shaft": shaft, "change": both}, ("thing",))
            check_manners(self, least_plan, {"shaft": shaft, "change": both})
            check_manners(self, least_plan, {"shaft": shaft, "change": ((1,) * 7, ())})
            for order in ((0, 2, 1), (0, 0, 1)):
                check_manners(self, in_turn, {"shaft": shaft, "change": both, "order": order})
            for stages in ((2,), (1, 3)):
                check_manners(self, staged_ends, {"shaft": shaft, "book": meet, "stages": stages})
            check_manners(self, fewest_stages, {"shaft": shaft, "book": meet})


if __name__ == "__main__":
    unittest.main()
