"""[13]: the greatest cut."""

import itertools
import unittest

from helpers import (
    ODD_THINGS, check_manners, deep_thing, dice_of, listed, outcome, plain_rows, random_waters, same, spoilt, wet_by_hand)
from manrods.cuts import (
    excesses, filled, flow_through, greatest_cut, growth, held_far, is_bounded, is_cut, is_flow, is_roomy, out_far,
    outflow, swings_to)
from manrods.errors import CanNot, TooMuch

PIT = ((6, 0, 2, 3, 1), (4, 5, 1, 4, 0), (2, 6, 2, 4, 1))
CALM = PIT[:2]
TIGHT = ((2, 0, 3, 4, 1), (1, 2, 0, 4, 0))
FAR = 10 ** 12


def slow(room):
    """WATERS whose upper CISTERN gains 1 each swing until it is full."""
    return ((2, 0, 0, 1, 0), (1, room, 2, 1, 1))


def springs_to(waters, number):
    """The springs of this CISTERN and all ahead of it, added."""
    total = 0
    for at in range(number + 1):
        total += waters[at][2]
    return total


def all_flows(waters):
    """All FLOWS of waters, one by one."""
    flows = [()]
    for _, _, spring, measure, _ in waters:
        flows = [(*flow, own) for flow in flows for own in range(min(measure, spring + (flow[-1] if flow else 0)) + 1)]
    return flows


def swings_played(waters, many):
    """HELD, and all that came out, behind 0 .. many swings by own play."""
    rows, outs = plain_rows(waters, (0,) * len(waters), 2 * many)
    return rows[::2], outs[::2]


def first_sure(waters, rows):
    """The first sure swing within rows, None without."""
    for swing in range(len(rows) - 1):
        ahead, behind = rows[swing], rows[swing + 1]
        if ahead[1:] == behind[1:] and (ahead[0] == behind[0] or ahead[0] >= waters[0][3]):
            return swing
    return None


def random_case(dice):
    deep = dice.randint(2, 8)
    waters = random_waters(dice, deep, 5, dice.choice((2, 4, 8)))
    if dice.random() < 0.4:
        waters = tuple([
            (level, room + springs_to(waters, at), spring, measure, rod)
            for at, (level, room, spring, measure, rod) in enumerate(waters)])
    return waters


class Excesses(unittest.TestCase):

    def test_excesses(self):
        dice = dice_of("excesses")
        for _ in range(300):
            waters = random_case(dice)
            own = [springs_to(waters, at) - waters[at][3] for at in range(len(waters))]
            self.assertTrue(same(excesses(waters), tuple(own)))
            self.assertIs(is_bounded(waters), not any([excess > 0 for excess in own]))
            self.assertEqual(growth(waters), max([0, *own]))
            roomy = all([waters[at][1] >= springs_to(waters, at) for at in range(1, len(waters))])
            self.assertIs(is_roomy(waters), roomy)
            cuts = [at for at, excess in enumerate(own) if excess > 0]
            for thing in range(-3, len(waters) + 3):
                self.assertIs(is_cut(waters, thing), thing in cuts)
            if cuts:
                self.assertEqual(greatest_cut(waters), min(cuts, key=lambda at: (-own[at], at)))
            else:
                with self.assertRaises(CanNot):
                    greatest_cut(waters)

    def test_edges(self):
        self.assertEqual((excesses(((2, 0, 3, 3, 0),)), growth(((2, 0, 3, 3, 0),)), is_bounded(((2, 0, 3, 3, 0),))), ((0,), 0, True))
        self.assertEqual((excesses(((2, 0, 4, 3, 0),)), growth(((2, 0, 4, 3, 0),)), is_bounded(((2, 0, 4, 3, 0),))), ((1,), 1, False))
        self.assertIs(is_roomy(((2, 0, 9, 3, 0),)), True)
        self.assertIs(is_roomy(((2, 0, 2, 3, 0), (1, 3, 1, 3, 0))), True)
        self.assertIs(is_roomy(((2, 0, 2, 3, 0), (1, 2, 1, 3, 0))), False)
        self.assertEqual(greatest_cut(((3, 0, 2, 1, 0), (2, 9, 1, 2, 0), (1, 9, 1, 3, 0))), 0)

    def test_things_that_are_no_cut(self):
        for thing in [*ODD_THINGS, deep_thing(100), 2.0, (2,)]:
            self.assertIs(is_cut(PIT, thing), False, thing)
        self.assertIs(is_cut(((2, 0, 5, 1, 0), (1, 0, 0, 1, 0)), 1), True)
        self.assertIs(is_cut(((2, 0, 5, 1, 0), (1, 0, 0, 1, 0)), True), False)
        self.assertIs(is_cut(((2, 0, 5, 1, 0),), False), False)
        self.assertIs(is_cut(((2, 0, 5, 1, 0),), -1), False)


class Flows(unittest.TestCase):

    def test_flows_by_all(self):
        dice = dice_of("flows")
        through = 0
        for _ in range(200):
            waters = random_waters(dice, dice.randint(2, 6), 4, 4)
            flows, springs = all_flows(waters), springs_to(waters, len(waters) - 1)
            good = [flow for flow in flows if flow[-1] == springs]
            self.assertEqual(outflow(waters), max([flow[-1] for flow in flows]))
            for flow in flows:
                self.assertIs(is_flow(waters, flow), flow in good)
            found = outcome(flow_through, waters)
            if good:
                self.assertIn(found[1], good)
                self.assertTrue(same(found[1], good[0]))
                with self.assertRaises(CanNot):
                    greatest_cut(waters)
                through += 1
            else:
                self.assertEqual(found[:2], ("error", "CanNot"))
                self.assertIs(is_cut(waters, greatest_cut(waters)), True)
        self.assertGreater(through, 30)
        self.assertLess(through, 170)

    def test_outflow_is_the_least_that_parts(self):
        dice = dice_of("outflow")
        for _ in range(200):
            waters = random_case(dice)
            springs = springs_to(waters, len(waters) - 1)
            behind = [waters[at][3] + springs - springs_to(waters, at) for at in range(len(waters))]
            self.assertEqual(outflow(waters), min([springs, *behind]))

    def test_things_that_are_no_flow(self):
        for thing in [*ODD_THINGS, *spoilt((2, 3)), deep_thing(100)]:
            self.assertIs(is_flow(CALM, thing), False, thing)
        self.assertIs(is_flow(CALM, (2, 3)), True)
        self.assertIs(is_flow(listed(CALM), (2, 3)), True)
        self.assertIs(is_flow(PIT, (2, 3, 5)), False)
        self.assertIs(is_flow(PIT, (2, 3, 4)), False)
        self.assertIs(is_flow(((2, 0, 1, 1, 0),), (True,)), False)
        self.assertIs(is_flow(((2, 0, 0, 1, 0),), (0,)), True)
        self.assertIs(is_flow(((2, 0, 0, 1, 0),), (False,)), False)


class Filling(unittest.TestCase):

    def test_filled(self):
        dice = dice_of("filled")
        for _ in range(200):
            waters = random_case(dice)
            rows, _ = swings_played(waters, 120)
            steps = [(two[0] - one[0], one[1:] == two[1:]) for one, two in zip(rows, rows[1:])]
            more = steps[-1][0]
            many = len(steps)
            while many and steps[many - 1] == (more, True):
                many -= 1
            self.assertLess(many, 110)
            self.assertTrue(same(filled(waters), (many, more)), (waters, many, more))
            if is_roomy(waters):
                self.assertEqual(more, growth(waters))

    def test_least_from_which_on(self):
        # The sump gains as much a swing ahead of the first sure one: its lift has enough only then.
        rows, _ = swings_played(TIGHT, 5)
        self.assertEqual(rows, [(0, 0), (3, 0), (4, 0), (5, 0), (6, 0), (7, 0)])
        self.assertEqual((first_sure(TIGHT, rows), filled(TIGHT)), (2, (1, 1)))
        self.assertEqual(filled(((2, 0, 0, 1, 0),)), (0, 0))
        self.assertEqual(filled(((2, 0, 1, 1, 0),)), (1, 0))
        self.assertEqual(filled(((2, 0, 2, 1, 0),)), (1, 1))
        self.assertEqual(filled(((2, 0, 2, 1, 1),)), (1, 1))

    def test_near(self):
        dice = dice_of("near")
        for _ in range(60):
            waters = random_case(dice)
            rows, outs = swings_played(waters, 80)
            for swings in (*range(25), 79, 80):
                self.assertTrue(same(held_far(waters, swings), rows[swings]))
                self.assertEqual(out_far(waters, swings), outs[swings])
            sumps = [held[0] for held in rows]
            for least in range(60):
                near = [swings for swings, amount in enumerate(sumps) if amount >= least]
                if near:
                    self.assertEqual(swings_to(waters, least), near[0])
                elif filled(waters)[1] == 0:
                    self.assertIsNone(swings_to(waters, least))
                else:
                    self.assertGreater(swings_to(waters, least), 80)

    def test_far(self):
        self.assertEqual(held_far(PIT, FAR), (FAR - 4, 4, 6))
        self.assertEqual(out_far(PIT, FAR), 4 * FAR - 6)
        dice = dice_of("far")
        for _ in range(100):
            waters = random_case(dice)
            rows, outs = swings_played(waters, 150)
            many, more = filled(waters)
            self.assertLess(many, 140)
            for swings in (FAR, FAR - 1, 10 ** 6, 151):
                further = swings - 150
                self.assertTrue(same(held_far(waters, swings), (rows[150][0] + further * more, *rows[150][1:])))
                self.assertEqual(out_far(waters, swings), outs[150] + further * (outs[150] - outs[149]))
            for least in (FAR, FAR - 1, 10 ** 6 + 1):
                if more == 0:
                    self.assertIsNone(swings_to(waters, least))
                    continue
                swings = swings_to(waters, least)
                self.assertGreaterEqual(held_far(waters, swings)[0], least)
                self.assertLess(held_far(waters, swings - 1)[0], least)

    def test_great_numbers(self):
        great = tuple([(level, 10 ** 6, 10 ** 6, 10 ** 6, level % 2) for level in range(8, 0, -1)])
        rows, outs = swings_played(great, 40)
        self.assertEqual((held_far(great, 40), out_far(great, 40)), (rows[40], outs[40]))
        self.assertEqual(swings_to(great, FAR), outcome(swings_to, great, FAR)[1])
        self.assertEqual(sum(held_far(great, FAR)) + out_far(great, FAR), 8 * 10 ** 6 * FAR)

    def test_too_much_exactly(self):
        for room in (10, *range(990, 1010), 10 ** 6):
            waters = slow(room)
            rows, outs = swings_played(waters, 1020)
            sure = first_sure(waters, rows)
            told = sure is not None and sure < 1000
            self.assertIs(outcome(filled, waters)[0] == "value", told, room)
            for swings in (0, 999, 1000):
                self.assertEqual((held_far(waters, swings), out_far(waters, swings)), (rows[swings], outs[swings]))
            for swings in (1001, 1020):
                if told:
                    self.assertEqual((held_far(waters, swings), out_far(waters, swings)), (rows[swings], outs[swings]))
                    continue
                for call in (held_far, out_far):
                    with self.assertRaises(TooMuch):
                        call(waters, swings)
            for least in (1, 5, 10 ** 6, FAR):
                near = [swings for swings, held in enumerate(rows[:1001]) if held[0] >= least]
                if near:
                    self.assertEqual(swings_to(waters, least), near[0])
                elif not told:
                    with self.assertRaises(TooMuch):
                        swings_to(waters, least)
                else:
                    # Full, it spills 1 more each swing, for ever.
                    self.assertEqual(swings_to(waters, least), len(rows) - 1 + least - rows[-1][0])
            self.assertEqual(swings_to(waters, 0), 0)
        kinds = [outcome(filled, slow(room))[0] for room in range(990, 1010)]
        self.assertEqual(sorted(kinds, reverse=True), kinds)
        self.assertEqual(len(set(kinds)), 2)

    def test_reached_though_never_sure(self):
        # The sump gains 3 each swing, the upper CISTERN never comes to be full.
        waters = ((2, 0, 5, 2, 0), (1, 10 ** 6, 0, 1, 1))
        self.assertEqual((swings_to(waters, 0), swings_to(waters, 5), swings_to(waters, 3000)), (0, 1, 1000))
        for call, argument in ((swings_to, 3003), (held_far, 1001), (out_far, FAR)):
            with self.assertRaises(TooMuch):
                call(waters, argument)
        self.assertEqual(held_far(waters, 1000)[0], 3002)

    def test_without_a_cut_no_level_is_drowned(self):
        dice = dice_of("dry")
        tried = 0
        for _ in range(300):
            waters = random_case(dice)
            per = waters[0][2] + 1
            if not is_roomy(waters) or not is_bounded(waters):
                continue
            rows, _ = plain_rows(waters, (0,) * len(waters), 60)
            self.assertFalse(any([wet_by_hand(waters[0][0], per, held) for held in rows]))
            tried += 1
        self.assertGreater(tried, 20)


class Manners(unittest.TestCase):

    def test_manners(self):
        for waters in (PIT, CALM, TIGHT):
            for call in (excesses, is_roomy, is_bounded, growth, greatest_cut, flow_through, outflow, filled):
                check_manners(self, call, {"waters": waters})
            check_manners(self, is_cut, {"waters": waters, "thing": 1}, ("thing",))
            check_manners(self, is_flow, {"waters": waters, "thing": (2, 3)}, ("thing",))
            for swings in (0, 7, FAR):
                check_manners(self, held_far, {"waters": waters, "swings": swings})
                check_manners(self, out_far, {"waters": waters, "swings": swings})
            for least in (3, 5, FAR):
                check_manners(self, swings_to, {"waters": waters, "least": least})
        for call, more in ((filled, {}), (held_far, {"swings": FAR}), (swings_to, {"least": FAR})):
            check_manners(self, call, {"waters": slow(10 ** 6), **more})


if __name__ == "__main__":
    unittest.main()
