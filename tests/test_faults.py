"""[23]: what FAULTS do."""

import itertools
import unittest

from helpers import WaterPlay, check_manners, dice_of, plain_rows, random_waters, same, shaft_of
from manrods.errors import NoPlace, Unfit
from manrods.faults import (
    broken_at, dent_of, dents, gauge_felt, is_calm, springs_at, taken_by, twins_of, valves_at)
from manrods.mines import adit_of, are_faults
from mineplay import LOST, MinePlay, first_by_hand, random_faults, random_staff

TWIN = ((2, True, (0, 0, 1)), ((2, 0, 2, 5, 0), (1, 9, 1, 9, 1)), 9, None)
LEAK = ("valve", 0, 1, 5)
LONG = 40


def random_calm(dice, last=3):
    """A MINE that is calm, or nearly so."""
    deep = dice.randint(2, 5)
    levels = [deep] + sorted(dice.sample(range(1, deep), dice.randint(0, min(3, deep - 1))), reverse=True)
    springs, waters = 0, []
    for level in levels:
        spring = dice.randint(0, last)
        springs += spring
        room, measure = [max(0, springs + dice.randint(-1 if dice.random() < 0.1 else 0, 3)) for _ in range(2)]
        waters.append((level, room, spring, max(1, measure), dice.randint(0, 1)))
    return (shaft_of(deep, True), tuple(waters), 1, None if dice.random() < 0.95 else (9, 9, (9,)))


class CalmPlay:
    """The run of a MINE without men and FAULTS by play: what each lift takes, what stands there, whether it is calm."""

    def __init__(self, waters, rests=LONG):
        play = WaterPlay(waters, [0] * len(waters))
        self.takes, self.stands, self.calm = [], [], True
        for rest in range(rests):
            held = list(play.held)
            brought = play.lift(1 - rest % 2)
            self.takes.append(brought)
            if rest % 2 == 1:
                play.spring()
            for at, cistern in enumerate(waters):
                if cistern[4] == 1 - rest % 2 and brought[at] != held[at]:
                    self.calm = False
                if at > 0 and play.held[at] > cistern[1]:
                    self.calm = False
            play.spill()
            self.stands.append(tuple(play.held))

    def is_gentle(self, waters, number, amount, since):
        """By the words, for since well ahead of the end of what was played."""
        _, room, _, measure, rod = waters[number]
        for made in range(since, len(self.takes)):
            taken = self.takes[made][number]
            if rod == 1 - made % 2 and (amount > taken or taken + amount > measure):
                return False
        return number == 0 or all([held[number] + amount <= room for held in self.stands])


def leaky_outs(waters, number, amount, since, rests=LONG):
    """What comes out, rest by rest, with this valve, by play; the list of HELD behind each rest, too."""
    play, outs, rows = WaterPlay(waters, [0] * len(waters)), [], []
    for rest in range(rests):
        ahead = play.out
        play.rest(rest, rest, True, (), [amount if at == number and rest >= since else 0 for at in range(len(waters))])
        outs.append(play.out - ahead)
        rows.append(tuple(play.held))
    return outs, rows


def two_plays(mine, book, faults, number, many):
    """The MinePlays of the RUN with all of faults, and with all but number."""
    plays = []
    for own in (faults, faults[:number] + faults[number + 1:]):
        play = MinePlay(mine, own, first_by_hand(mine, book))
        for _ in range(many):
            play.go()
        plays.append(play)
    return plays


def random_case(dice):
    mine, book = random_staff(dice, most=5)
    faults = random_faults(dice, mine)
    while not faults:
        faults = random_faults(dice, mine)
    return mine, book, faults


class There(unittest.TestCase):

    def test_added_up(self):
        faults = (
            ("platform", (0, 1), 4), ("platform", (1, 1), 3), ("platform", (1, 1), 7), ("spring", 0, 1, 2), ("spring", 0, 2, 5),
            ("spring", 1, 4, 0), ("valve", 0, 2, 3), ("valve", 0, 2, 4), ("valve", 1, 1, 9))
        self.assertTrue(are_faults(TWIN, faults))
        valves = {0: (0, 0), 2: (0, 0), 3: (2, 0), 4: (4, 0), 8: (4, 0), 9: (4, 1), 10 ** 12: (4, 1)}
        springs = {0: (2, 5), 1: (2, 5), 2: (3, 5), 4: (3, 5), 5: (5, 5), 10 ** 12: (5, 5)}
        broken = {0: (), 2: (), 3: ((1, 1),), 4: ((0, 1), (1, 1)), 7: ((0, 1), (1, 1))}
        for call, table in ((valves_at, valves), (springs_at, springs), (broken_at, broken)):
            for made, expected in table.items():
                self.assertTrue(same(call(TWIN, faults, made), expected), (call, made))
        self.assertEqual((valves_at(TWIN, (), 9), springs_at(TWIN, (), 9), broken_at(TWIN, (), 9)), ((0, 0), (2, 1), ()))

    def test_drawn(self):
        dice = dice_of("there")
        for _ in range(200):
            mine, _, faults = random_case(dice)
            made = dice.randint(0, 9)
            play = MinePlay(mine, faults, (0, made) + first_by_hand(mine, ())[2:])
            leaks, springs = [0] * len(mine[1]), [cistern[2] for cistern in mine[1]]
            for _, number, amount, _ in play.there("valve"):
                leaks[number] += amount
            for _, number, more, _ in play.there("spring"):
                springs[number] += more
            self.assertTrue(same(valves_at(mine, faults, made), tuple(leaks)))
            self.assertTrue(same(springs_at(mine, faults, made), tuple(springs)))
            self.assertTrue(same(broken_at(mine, faults, made), tuple(sorted({fault[1] for fault in play.there("platform")}))))


class Felt(unittest.TestCase):

    def test_by_two_plays(self):
        dice = dice_of("felt")
        kinds = {}
        for _ in range(300):
            mine, book, faults = random_case(dice)
            number, many = dice.randrange(len(faults)), dice.randint(0, 25)
            with_it, without = two_plays(mine, book, faults, number, many)
            outs = [(rest, one - two) for rest, (one, two) in enumerate(zip(with_it.outs, without.outs)) if one != two]
            self.assertTrue(same(dents(mine, book, faults, number, many), outs))
            pairs = [
                (rests, place) for rests in range(many + 1) for place in range(len(mine[1]))
                if with_it.rows[rests][2][place] != without.rows[rests][2][place]]
            self.assertTrue(same(gauge_felt(mine, book, faults, number, many), min(pairs) if pairs else None))
            taken = [man for man in range(len(book)) if with_it.men[man] == LOST and without.men[man] != LOST]
            self.assertTrue(same(taken_by(mine, book, faults, number, many), tuple(taken)))
            for word, found in (("dents", outs), ("felt", pairs), ("taken", taken)):
                kinds[word, bool(found)] = kinds.get((word, bool(found)), 0) + 1
        self.assertEqual(len(kinds), 6)
        self.assertGreater(min(kinds.values()), 8)

    def test_felt_at_the_last_rest(self):
        self.assertEqual(dents(TWIN, (), (LEAK,), 0, 6), [])
        self.assertEqual(dents(TWIN, (), (LEAK,), 0, 7), [(6, -1)])
        self.assertIsNone(gauge_felt(TWIN, (), (LEAK,), 0, 5))
        self.assertEqual(gauge_felt(TWIN, (), (LEAK,), 0, 6), (6, 0))
        self.assertEqual(dents(TWIN, (), (LEAK,), 0, 0), [])

    def test_no_place(self):
        for call in (dents, gauge_felt, taken_by):
            for faults in ((), (LEAK,)):
                for number in (-1, len(faults), 10 ** 12):
                    with self.assertRaises(NoPlace) as caught:
                        call(TWIN, (), faults, number, 5)
                    self.assertEqual(caught.exception.place, number)


class Calm(unittest.TestCase):

    def test_is_calm(self):
        dice = dice_of("calm")
        kinds = {True: 0, False: 0}
        for turn in range(500):
            mine = random_calm(dice)
            if turn % 3 == 0:
                mine = (mine[0], random_waters(dice, mine[0][0], 4, 3), 1, None)
            expected = mine[3] is None and CalmPlay(mine[1]).calm
            self.assertIs(is_calm(mine), expected, mine)
            kinds[expected] += 1
        self.assertGreater(min(kinds.values()), 100)

    def test_no_engine(self):
        self.assertIs(is_calm(TWIN), True)
        self.assertIs(is_calm(TWIN[:3] + ((10 ** 6, 10 ** 6, (10 ** 6,)),)), False)

    def test_at_the_edges(self):
        for room, measure, low, calm in ((3, 3, 2, True), (2, 3, 2, False), (3, 2, 2, False), (3, 3, 1, False)):
            waters = ((2, 0, 2, low, 0), (1, room, 1, measure, 1))
            self.assertIs(is_calm((TWIN[0], waters, 1, None)), calm)
        self.assertIs(is_calm((TWIN[0], ((2, 0, 0, 1, 0), (1, 0, 0, 1, 1)), 1, None)), True)


class Gentle(unittest.TestCase):

    def test_dents_against_trying_all_valves(self):
        dice = dice_of("gentle")
        kinds = {True: 0, False: 0}
        for _ in range(60):
            mine = random_calm(dice)
            waters, played = mine[1], CalmPlay(mine[1])
            whole = plain_rows(waters, (0,) * len(waters), LONG)[1]
            plain = [two - one for one, two in zip(whole, whole[1:])]
            calm = mine[3] is None and played.calm
            told = {}
            for number, amount, since in itertools.product(range(len(waters)), range(1, 5), range(14)):
                fault = ("valve", number, amount, since)
                gentle = calm and played.is_gentle(waters, number, amount, since)
                kinds[gentle] += 1
                if not gentle:
                    for call in (dent_of, twins_of):
                        with self.assertRaises(Unfit):
                            call(mine, fault)
                    continue
                outs, rows = leaky_outs(waters, number, amount, since)
                less = [(rest, two - one) for rest, (one, two) in enumerate(zip(outs, plain)) if one != two]
                self.assertEqual(len(less), 1, (mine, fault))
                self.assertTrue(same(dent_of(mine, fault), less[0]))
                # From one rest on its CISTERN holds amount more for ever, no other one does.
                more = [
                    held[number] - own[number] for held, own in zip(rows, played.stands)]
                self.assertEqual(sorted(more), more)
                self.assertEqual((more[0], more[-1]), (0, amount))
                told.setdefault(less[0], []).append(fault)
            self.check_twins(mine, told)
        self.assertGreater(min(kinds.values()), 500)

    def check_twins(self, mine, told):
        for (rest, amount), faults in told.items():
            # What was tried up to made 13 is all, if the dent is well ahead of that.
            if rest > 10:
                continue
            expected = []
            for number in range(len(mine[1])):
                mades = [since for _, own, _, since in faults if own == number]
                if mades:
                    self.assertEqual(mades, list(range(mades[0], mades[-1] + 1)))
                    expected.append((number, mades[0], mades[-1]))
            for fault in faults:
                self.assertTrue(same(twins_of(mine, fault), expected), (mine, fault))

    def test_far(self):
        for since in (5, 10 ** 6 + 1, 10 ** 12 + 1):
            self.assertEqual(dent_of(TWIN, ("valve", 0, 1, since)), (since + 1, 1))
            self.assertEqual(dent_of(TWIN, ("valve", 0, 1, since - 1)), (since + 1, 1))
            twins = [(0, since - 1, since), (1, since, since + 1)]
            self.assertEqual(twins_of(TWIN, ("valve", 0, 1, since)), twins)
            self.assertEqual(twins_of(TWIN, ("valve", 1, 1, since + 1)), twins)

    def test_same_rows_at_the_adit(self):
        rows = {adit_of((TWIN, (), (fault,), (), 30)) for fault in (LEAK, ("valve", 0, 1, 4), ("valve", 1, 1, 5), ("valve", 1, 1, 6))}
        self.assertEqual(len(rows), 1)
        self.assertEqual(len({adit_of((TWIN, (), (fault,), (), 30)) for fault in (LEAK, ("valve", 0, 1, 6), ("valve", 1, 1, 9))}), 3)

    def test_unfit(self):
        for fault in (
                ("valve", 0, 3, 5), ("valve", 0, 1, 0), ("valve", 0, 1, 1), ("spring", 0, 1, 5), ("platform", (0, 1), 5)):
            for call in (dent_of, twins_of):
                with self.assertRaises(Unfit):
                    call(TWIN, fault)
        self.assertEqual(dent_of(TWIN, ("valve", 0, 1, 2)), (4, 1))
        with self.assertRaises(Unfit):
            dent_of(TWIN[:3] + ((99, 99, (99,)),), LEAK)
        # In the sump the room changes nothing; above it what stands there and amount are to have room.
        for room, fits in ((5, True), (4, False)):
            mine = (TWIN[0], ((2, 0, 2, 5, 0), (1, room, 1, 9, 1)), 9, None)
            if fits:
                self.assertEqual(dent_of(mine, ("valve", 1, 2, 8)), (8, 2))
            else:
                with self.assertRaises(Unfit):
                    dent_of(mine, ("valve", 1, 2, 8))
            self.assertEqual(dent_of(mine, ("valve", 0, 2, 5)), (6, 2))


class Manners(unittest.TestCase):

    def test_manners(self):
        mine = (TWIN[0], TWIN[1], 2, (9, 9, (7, 5)))
        faults = (("platform", (1, 1), 3), ("spring", 1, 2, 2), LEAK)
        book = ((2, 0, 3), (0, 2, 1))
        for call in (valves_at, springs_at, broken_at):
            for made in (0, 3, 9):
                check_manners(self, call, {"mine": mine, "faults": faults, "made": made})
        for call in (dents, gauge_felt, taken_by):
            for number in (0, 1, 2, 3):
                check_manners(self, call, {"mine": mine, "book": book, "faults": faults, "number": number, "many": 12})
        for own in (mine, TWIN):
            check_manners(self, is_calm, {"mine": own})
            for fault in (LEAK, ("valve", 0, 3, 5), ("spring", 0, 1, 5), ("platform", (0, 1), 5)):
                check_manners(self, dent_of, {"mine": own, "fault": fault})
                check_manners(self, twins_of, {"mine": own, "fault": fault})


if __name__ == "__main__":
    unittest.main()
