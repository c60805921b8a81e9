"""[20]: whole runs."""

import itertools
import unittest

from helpers import ODD_THINGS, check_manners, deep_thing, dice_of, listed, same, spoilt
from manrods.errors import NoPlace, Unfit
from manrods.mines import (
    adit_of, are_faults, bells_that_save, can_do, end_standing, first_standing, home_in, is_mine, is_run, is_standing,
    lost_in, moved_in, rest_done, rests_of, with_bell)
from manrods.shafts import platforms
from mineplay import (
    GRASS, LOST, MinePlay, aside, first_by_hand, play_by_hand, random_deed, random_faults, random_run, random_staff, rod)

PIT = ((3, True, (0, 9, 9, 9)), ((3, 0, 1, 2, 0),), 9, None)
MILL = ((4, False, (0, 1, 2, 3, 4)), ((4, 0, 3, 3, 0), (2, 6, 1, 4, 1)), 4, (10, 4, (5, 8)))
BOOK = ((4, 0, 0), (0, 4, 2), (2, 1, 3))
FAULTS = (("platform", (1, 4), 9), ("spring", 1, 2, 3), ("valve", 0, 1, 5))
TOLD = (
    (0, ("couple", 0, False)), (2, ("cock", 1, 1)), (2, ("stoke", 5)), (3, ("mend", 2)), (5, ("bell",)), (9, ("board", 1, 4)),
    (40, ("aside", 2)))
RUN = (MILL, BOOK, FAULTS, TOLD, 7)
STANDING = (
    5, 4, (7, 6), 3, (rod(1, 2), GRASS, aside(1), LOST), ((0, 0), (4, 9), None, None), (0,), (0, 2), False)
FOUR = BOOK + ((2, 3, 1),)


def is_count(thing, least=0):
    return type(thing) is int and thing >= least


def is_mine_by_hand(thing):
    """Whether thing is a MINE, told by hand."""
    if type(thing) is not tuple or len(thing) != 4:
        return False
    shaft, waters, per, engine = thing
    if type(shaft) is not tuple or len(shaft) != 3 or not is_count(shaft[0], 2) or type(shaft[1]) is not bool:
        return False
    if type(shaft[2]) is not tuple or len(shaft[2]) != shaft[0] + 1 or not all([is_count(room) for room in shaft[2]]):
        return False
    if type(waters) is not tuple or not waters or any([type(part) is not tuple or len(part) != 5 for part in waters]):
        return False
    if any([not is_count(amount) for part in waters for amount in part]) or waters[0][0] != shaft[0]:
        return False
    levels = [part[0] for part in waters]
    if levels != sorted(set(levels), reverse=True) or levels[-1] < 1 or any([part[3] < 1 or part[4] > 1 for part in waters]):
        return False
    if not is_count(per, 1) or engine is None:
        return is_count(per, 1)
    if type(engine) is not tuple or len(engine) != 3 or not is_count(engine[0]) or not is_count(engine[1]):
        return False
    stokes = engine[2]
    return engine[1] <= engine[0] and type(stokes) is tuple and len(stokes) > 0 and all([is_count(part) for part in stokes])


def are_faults_by_hand(mine, thing):
    """Whether thing are FAULTS, told by hand."""
    if type(thing) is not tuple:
        return False
    for fault in thing:
        if type(fault) is not tuple or not fault or not is_count(fault[-1]):
            return False
        if fault[0] == "platform":
            if len(fault) != 3 or not any([same(fault[1], platform) for platform in platforms(mine[0])]):
                return False
        elif fault[0] not in ("valve", "spring") or len(fault) != 4:
            return False
        elif not is_count(fault[1]) or fault[1] >= len(mine[1]) or not is_count(fault[2], 1):
            return False
    return list(thing) == sorted(set(thing))


def is_deed_by_hand(mine, men, faults, deed):
    """Whether deed is a DEED, told by hand."""
    if type(deed) is not tuple or not deed or type(deed[0]) is not str:
        return False
    deep, cisterns = mine[0][0], len(mine[1])
    limits = {
        "board": (range(men), range(deep + 1)), "aside": (range(men),), "couple": (range(cisterns), (False, True)),
        "cock": (range(cisterns), range(1, 10 ** 30)), "stoke": (range(1, 10 ** 30),), "mend": (range(faults),), "bell": ()}
    if deed[0] not in limits or len(deed) != 1 + len(limits[deed[0]]):
        return False
    kinds = [bool if limit == (False, True) else int for limit in limits[deed[0]]]
    return all([type(part) is kind and part in limit for part, kind, limit in zip(deed[1:], kinds, limits[deed[0]])])


def is_run_by_hand(thing):
    """Whether thing is a RUN, told by hand."""
    if type(thing) is not tuple or len(thing) != 5 or not is_mine_by_hand(thing[0]):
        return False
    mine, book, faults, told, many = thing
    deep, _, rooms = mine[0]
    if type(book) is not tuple:
        return False
    for ride in book:
        if type(ride) is not tuple or len(ride) != 3 or not all([is_count(part) for part in ride]):
            return False
        if ride[0] == ride[1] or max(ride[:2]) > deep:
            return False
    for level in range(1, deep + 1):
        if [ride[0] for ride in book].count(level) > rooms[level]:
            return False
    if not are_faults_by_hand(mine, faults) or type(told) is not tuple or not is_count(many):
        return False
    if any([type(pair) is not tuple or len(pair) != 2 or not is_count(pair[0]) for pair in told]):
        return False
    rests = [rest for rest, _ in told]
    return rests == sorted(rests) and all([is_deed_by_hand(mine, len(book), len(faults), deed) for _, deed in told])


class Things(unittest.TestCase):

    def check_spoilt(self, thing, check, by_hand, least):
        """Check all that differs from thing in one place."""
        self.assertIs(check(thing), True)
        good = 0
        for other in spoilt(thing):
            expected = by_hand(other)
            self.assertIs(check(other), expected, other)
            good += expected
        self.assertGreaterEqual(good, least)
        self.assertFalse(check(listed(thing)))
        for odd in (*ODD_THINGS, deep_thing(100)):
            self.assertIs(check(odd), by_hand(odd), odd)

    def test_mines(self):
        for mine in (PIT, MILL, MILL[:3] + ((0, 0, (0,)),), ((2, False, (9, 0, 10 ** 30)), ((2, 5, 0, 1, 1),), 10 ** 30, None)):
            self.check_spoilt(mine, is_mine, is_mine_by_hand, 5)
        deep = 300
        great = ((deep, True, (1,) * (deep + 1)), tuple([(deep - at, 0, 0, 1, 0) for at in range(deep)]), 1, (9, 9, (0,) * 500))
        self.assertIs(is_mine(great), True)
        self.assertIs(is_mine((great[0], great[1] + ((0, 0, 0, 1, 0),), 1, None)), False)

    def test_no_mines(self):
        shaft, waters, per, engine = MILL
        for bad in (
                (shaft, waters, 0, engine), (shaft, waters, True, engine), (shaft, waters, per, (4, 5, (1,))),
                (shaft, waters, per, (5, 5, ())), (shaft, waters, per, ()), (shaft, waters, per, False),
                (shaft, waters[::-1], per, engine), (shaft, waters[1:], per, engine), (shaft, (), per, engine),
                (shaft, waters + waters[1:], per, engine), (shaft, ((4, 0, 3, 0, 0),), per, engine),
                (shaft, ((4, 0, 3, 1, 2),), per, engine), (PIT[0], waters, per, engine), (shaft, waters, per)):
            self.assertIs(is_mine(bad), False, bad)
        self.assertIs(is_mine((shaft, waters, per, (5, 5, (1,)))), True)

    def test_faults(self):
        self.check_spoilt(FAULTS, lambda thing: are_faults(MILL, thing), lambda thing: are_faults_by_hand(MILL, thing), 8)
        self.assertIs(are_faults(MILL, ()), True)
        for order in itertools.permutations(FAULTS):
            self.assertIs(are_faults(MILL, order), order == FAULTS)
        twice = (("platform", (0, 1), 2), ("platform", (0, 1), 5), ("platform", (0, 2), 0))
        self.assertIs(are_faults(MILL, twice), True)
        self.assertIs(are_faults(MILL, twice[:1] * 2), False)
        self.assertIs(are_faults(listed(MILL), twice), True)
        for bad in (
                ("valve", 2, 1, 0), ("valve", 0, 0, 0), ("valve", 0, 1), ("valve", 0, 1, -1), ("spring", 0, 0, 0),
                ("spring", 2, 1, 0), ("platform", (0, 4), 0), ("platform", (1, 0), 0), ("platform", (1, 1)),
                ("platform", (True, 1), 0), ("platform", (1, 1), 0, 0), ("gauge", 0, 1, 0), ("valve", (0, 1), 0)):
            self.assertIs(are_faults(MILL, (bad,)), False, bad)

    def test_runs(self):
        self.check_spoilt(RUN, is_run, is_run_by_hand, 40)
        self.check_spoilt((PIT, (), (), (), 0), is_run, is_run_by_hand, 3)
        self.assertIs(is_run(RUN[:4] + (10 ** 30,)), True)

    def test_rides_without_room(self):
        book = ((3, 0, 0),) * 3 + ((0, 1, 0),) * 30
        self.assertIs(is_run((MILL, book, (), (), 1)), True)
        self.assertIs(is_run((MILL, book + ((3, 0, 9),), (), (), 1)), False)
        self.assertIs(is_run((MILL, ((1, 0, 0),) * 2, (), (), 1)), False)

    def test_of_any_size(self):
        deep, many = 3000, 20000
        great = ((deep, True, (many,) * (deep + 1)), ((deep, 0, 0, 1, 0),), 1, None)
        book = tuple([(1 + man % deep, 0, man) for man in range(many)])
        self.assertIs(is_run((great, book, (), (), 0)), True)
        self.assertIs(is_run((great, book, (), ((0, ("bell",)),) * many, 0)), True)
        self.assertIs(is_run((((deep, True, (6,) * (deep + 1)), *great[1:]), book, (), (), 0)), False)

    def test_told_deeds(self):
        good = [
            ("board", 0, 0), ("board", 2, 4), ("aside", 2), ("couple", 1, True), ("cock", 0, 9), ("stoke", 1), ("mend", 2),
            ("bell",)]
        for deed in good:
            self.assertIs(is_run((MILL, BOOK, FAULTS, ((3, deed), (3, deed)), 0)), True, deed)
            self.assertIs(is_run((PIT, ((2, 0, 0),) * 3, (("valve", 0, 1, 0),) * 1, ((3, deed),), 0)),
                          is_deed_by_hand(PIT, 3, 1, deed), deed)
            self.assertIs(is_run((MILL, BOOK, FAULTS, ((3, deed), (2, deed)), 0)), False, deed)
        bad = [
            ("board", 3, 0), ("board", 0, 5), ("board", -1, 0), ("board", 0), ("board", True, 0), ("aside", 3), ("aside", True),
            ("couple", 2, True), ("couple", 0, 1), ("couple", 0), ("cock", 1, 0), ("cock", 2, 1), ("cock", 1, True),
            ("stoke", 0), ("stoke",), ("stoke", True), ("mend", 3), ("mend", -1), ("bell", 0), ("bell", ()), (), ("uncouple", 0),
            ("",), ([],), (None, 0), (("bell",),), "bell", ["bell"], ("rests", 1)]
        for deed in bad:
            self.assertIs(is_run((MILL, BOOK, FAULTS, ((3, deed),), 0)), False, deed)

    def test_standings(self):
        def by_hand(thing):
            if type(thing) is not tuple or len(thing) != 9:
                return False
            rest, made, held, steam, men, aims, loose, mended, moved = thing
            if not is_count(rest) or not is_count(made) or type(moved) is not bool or not is_count(steam) or steam > 10:
                return False
            if type(held) is not tuple or len(held) != 2 or not all([is_count(part) for part in held]) or held[1] > 6:
                return False
            for row, limit in ((loose, 2), (mended, 3)):
                if type(row) is not tuple or not all([is_count(part) and part < limit for part in row]):
                    return False
                if list(row) != sorted(set(row)):
                    return False
            if type(men) is not tuple or type(aims) is not tuple or len(men) != 4 or len(aims) != 4:
                return False
            if not same(men, STANDING[4]) or made % 2 != 0:
                return False
            for man, aim in enumerate(aims):
                if aim is None:
                    if man == 0:
                        return False
                elif man == 3 or type(aim) is not tuple or len(aim) != 2 or not all([is_count(part) for part in aim]):
                    return False
                elif aim[0] > 4:
                    return False
            return True

        good = 0
        self.assertIs(is_standing(MILL, FOUR, FAULTS, STANDING), True)
        for other in spoilt(STANDING):
            if type(other) is tuple and len(other) == 9 and not same(other[4], STANDING[4]):
                # Whether men are a CROWD is told with that; a man more or less is one of as many no more.
                if type(other[4]) is tuple and len(other[4]) != 4:
                    self.assertIs(is_standing(MILL, FOUR, FAULTS, other), False)
                continue
            expected = by_hand(other)
            self.assertIs(is_standing(MILL, FOUR, FAULTS, other), expected, other)
            good += expected
        self.assertGreater(good, 10)
        for odd in (*ODD_THINGS, deep_thing(100)):
            self.assertIs(is_standing(MILL, FOUR, FAULTS, odd), False, odd)

    def test_no_standings(self):
        def put(at, part):
            return STANDING[:at] + (part,) + STANDING[at + 1:]

        for at, part in (
                (0, -1), (1, -1), (2, (7, 7)), (2, (7,)), (3, 11), (4, (rod(1, 2),) * 4), (4, (rod(1, 0),) + STANDING[4][1:]),
                (4, (rod(1, 2), GRASS, aside(1), aside(1))), (5, (None,) * 4), (6, (2,)), (6, (1, 0)), (6, (0, 0)), (7, (3,)),
                (8, 1), (8, None), (6, [0]), (2, [7, 6])):
            self.assertIs(is_standing(MILL, FOUR, FAULTS, put(at, part)), False, (at, part))
        # At an odd made it is another PLATFORM that faces a level, or none.
        self.assertIs(is_standing(MILL, FOUR, FAULTS, put(4, (rod(1, 4),) + STANDING[4][1:])), True)
        self.assertIs(is_standing(MILL, FOUR, FAULTS, (5, 3) + put(4, (rod(1, 4),) + STANDING[4][1:])[2:]), False)
        for at, part in ((0, 10 ** 30), (1, 10 ** 30), (1, 3), (4, STANDING[4][:3] + (GRASS,)), (2, (10 ** 30, 0)), (3, 10), (6, ()), (6, (0, 1)), (7, (0, 1, 2)), (8, True)):
            self.assertIs(is_standing(MILL, FOUR, FAULTS, put(at, part)), True, (at, part))
        self.assertIs(is_standing(MILL, BOOK, FAULTS, STANDING), False)
        self.assertIs(is_standing(MILL, FOUR, FAULTS[:2], STANDING), False)
        self.assertIs(is_standing(MILL[:3] + (None,), FOUR, FAULTS, STANDING), False)
        self.assertIs(is_standing(MILL[:3] + (None,), FOUR, FAULTS, put(3, 0)), True)

    def test_of_whatever_run(self):
        dice = dice_of("standings")
        for _ in range(60):
            run = random_run(dice)
            for standing in rests_of(run):
                self.assertIs(is_standing(*run[:3], standing), True)
                self.assertIs(is_standing(*listed(run[:3]), standing), True)
                self.assertIs(is_standing(*run[:3], list(standing)), False)


class First(unittest.TestCase):

    def test_first_standing(self):
        dice = dice_of("first")
        for _ in range(60):
            mine, book = random_staff(dice)
            self.assertTrue(same(first_standing(mine, book), first_by_hand(mine, book)))
            self.assertIs(is_standing(mine, book, (), first_standing(mine, book)), True)
        self.assertEqual(first_standing(MILL, ())[3:], (4, (), (), (), (), True))


class Deeds(unittest.TestCase):

    STEAMY = (9, 4, (7, 6), 3, (rod(1, 2), GRASS, aside(1), LOST), ((0, 0), (4, 9), None, None), (0,), (0, 2), False)

    def check_deed(self, deed, yes, standing=STEAMY, mine=MILL):
        self.assertIs(can_do(mine, FAULTS, standing, deed), yes, deed)
        if yes:
            self.assertTrue(is_standing(mine, FOUR, FAULTS, rest_done(mine, FAULTS, standing, (deed,))[0]))
        else:
            for deeds in ((deed,), (("bell",), deed), (deed, ("bell",))):
                with self.assertRaises(Unfit):
                    rest_done(mine, FAULTS, standing, deeds)

    def test_where_they_can_be_done(self):
        for deed, yes in (
                (("board", 0, 1), False), (("board", 0, 2), False), (("board", 1, 4), True), (("board", 1, 0), False),
                (("board", 2, 0), True), (("board", 2, 1), False), (("board", 2, 4), True), (("board", 3, 0), False),
                (("aside", 0), True), (("aside", 1), False), (("aside", 2), False), (("aside", 3), False),
                (("couple", 0, True), True), (("couple", 0, False), False), (("couple", 1, True), False),
                (("couple", 1, False), True), (("cock", 0, 1), False), (("cock", 1, 6), True), (("cock", 1, 7), False),
                (("stoke", 1), True), (("stoke", 10 ** 6), True), (("mend", 0), False), (("mend", 1), True), (("mend", 2), False),
                (("bell",), True)):
            self.check_deed(deed, yes)
        self.check_deed(("stoke", 1), False, self.STEAMY[:3] + (0,) + self.STEAMY[4:], MILL[:3] + (None,))

    def test_one_behind_another(self):
        standing = self.STEAMY
        good = (("couple", 0, True), ("couple", 0, False), ("cock", 1, 4), ("cock", 1, 2), ("mend", 1), ("board", 2, 0), ("board", 2, 3))
        self.assertTrue(is_standing(MILL, FOUR, FAULTS, rest_done(MILL, FAULTS, standing, good)[0]))
        for deeds in (
                (("cock", 1, 4), ("cock", 1, 3)), (("mend", 1), ("mend", 1)), (("couple", 1, False), ("couple", 1, False)),
                (("couple", 1, False), ("couple", 0, True), ("couple", 1, False))):
            with self.assertRaises(Unfit):
                rest_done(MILL, FAULTS, standing, deeds)

    def test_what_they_do(self):
        def behind(deeds, mine=MILL, standing=self.STEAMY):
            play = MinePlay(mine, FAULTS, standing)
            for deed in deeds:
                self.assertTrue(play.deed(deed))
            return play.standing()

        # Done with a rest of no strokes, springs or steam, so that just they are seen.
        still = (MILL[0], ((4, 0, 0, 9, 0), (2, 20, 0, 9, 1)), 99, (4, 0, (0,)))
        standing = (8, 4, (7, 6), 0, (rod(1, 2), GRASS, aside(1), LOST), ((4, 0), (4, 9), None, None), (), (0,), True)
        for deeds, at, part in (
                ((("stoke", 3),), 3, 3), ((("stoke", 3), ("stoke", 9)), 3, 4), ((("couple", 0, False),), 6, (0,)),
                ((("couple", 1, False), ("couple", 0, False)), 6, (0, 1)), ((("mend", 2),), 7, (0, 2)),
                ((("mend", 2), ("mend", 1)), 7, (0, 1, 2)), ((("aside", 0),), 5, ((2, 4), (4, 9), None, None)),
                ((("board", 2, 3),), 5, ((4, 0), (4, 9), (3, 4), None)), ((("bell",),), 5, ((0, 4), (4, 9), (0, 4), None)),
                ((("cock", 1, 2),), 2, (9, 4))):
            own = behind(deeds, still, standing)
            self.assertTrue(same(own[at], part), (deeds, own[at]))
            play = MinePlay(still, FAULTS, own)
            play.go()
            self.assertTrue(same(rest_done(still, FAULTS, standing, deeds)[0], play.standing()), deeds)

    def test_let_above_its_room(self):
        waters = ((3, 0, 0, 1, 0), (2, 2, 0, 9, 0), (1, 9, 0, 9, 0))
        mine = (PIT[0], waters, 99, None)
        standing = (2, 2, (0, 2, 5), 0, (), (), (), (), True)
        # The lifts of rod 1 rise, of which there is none: what is above the room spills.
        self.assertEqual(rest_done(mine, (), standing, (("cock", 2, 4),))[0][2], (4, 2, 1))
        # At an odd made the lift finds all that was let in.
        self.assertEqual(rest_done(mine, (), (2, 3) + standing[2:], (("cock", 2, 4),)), ((3, 4, (0, 0, 6), 0, (), (), (), (), True), 1))


class Rests(unittest.TestCase):

    def test_step_by_step(self):
        dice = dice_of("whole runs")
        seen = {}
        for _ in range(500):
            run = random_run(dice)
            self.assertIs(is_run(run), True)
            play = play_by_hand(run)
            self.assertTrue(same(rests_of(run), play.rows), run)
            mine, book, faults, told, many = run
            for rest in range(many):
                deeds = tuple([deed for own, deed in told if own == rest])
                found = rest_done(mine, faults, play.rows[rest], deeds)
                self.assertTrue(same(found, (play.rows[rest + 1], play.outs[rest])))
                for deed in deeds:
                    seen[deed[0]] = True
                seen["moved", found[0][8]] = seen["loose", found[0][6] != ()] = seen["mended", found[0][7] != ()] = True
                for fault in faults:
                    seen[fault[0], fault[-1] <= found[0][1]] = True
                for place in found[0][4]:
                    seen[place[0]] = True
        for word in ("board", "aside", "couple", "cock", "stoke", "mend", "bell", "grass", "rod", "lost"):
            self.assertIn(word, seen)
        for word in ("moved", "loose", "mended", "valve", "spring", "platform"):
            self.assertIn((word, True), seen)
            self.assertIn((word, False), seen)

    def test_what_is_told_of_a_run(self):
        dice = dice_of("told")
        for _ in range(200):
            run = random_run(dice)
            rows, play = rests_of(run), play_by_hand(run)
            self.assertTrue(same(end_standing(run), play.rows[-1]))
            self.assertTrue(same(adit_of(run), tuple(play.outs)))
            self.assertTrue(same(moved_in(run), tuple([row[8] for row in play.rows[1:]])))
            for call, place in ((home_in, GRASS), (lost_in, LOST)):
                found = []
                for man in range(len(run[1])):
                    at = [rests for rests, row in enumerate(rows) if row[4][man] == place]
                    found.extend([(rests, man) for rests in at[:1]])
                self.assertTrue(same(call(run), sorted(found)), run)

    def test_home_before_anything(self):
        run = (PIT, ((0, 2, 0), (1, 0, 0)), (), (), 3)
        self.assertEqual((home_in(run), lost_in(run)), ([(0, 0), (2, 1)], []))
        self.assertEqual(home_in(run[:4] + (0,)), [(0, 0)])
        self.assertEqual(rests_of(run[:4] + (0,)), [first_standing(PIT, run[1])])
        self.assertEqual((adit_of(run[:4] + (0,)), moved_in(run[:4] + (0,))), ((), ()))

    def test_gone_on_with(self):
        dice = dice_of("gone on")
        for _ in range(80):
            mine, book, faults, told, many = run = random_run(dice)
            rows, outs = rests_of(run), adit_of(run)
            for begin in range(many + 1):
                standing = rows[begin]
                for rest in range(begin, many):
                    deeds = [deed for own, deed in told if own == rest]
                    standing, out = rest_done(mine, faults, standing, deeds)
                    self.assertTrue(same((standing, out), (rows[rest + 1], outs[rest])))

    def test_water_hangs_on_no_man(self):
        dice = dice_of("no man")
        for _ in range(80):
            mine, book, faults, told, many = run = random_run(dice)
            lone = tuple([pair for pair in told if pair[1][0] in ("couple", "cock", "stoke", "mend")])
            one, two = rests_of(run), rests_of((mine, (), faults, lone, many))
            for row, other in zip(one, two):
                self.assertTrue(same(row[:4] + row[6:], other[:4] + other[6:]))
            self.assertEqual(adit_of(run), adit_of((mine, (), faults, lone, many)))

    def test_faults_count_from_the_made_ahead_of_the_stroke(self):
        # At rest 3 made is 3: the spring at its end, the stroke, and who stands there, count it.
        for since, sprung in ((3, 2), (4, 1)):
            self.assertEqual(end_standing((PIT, (), (("spring", 0, 1, since),), (), 4))[2], (sprung,))
        for since, out in ((3, 0), (4, 1)):
            self.assertEqual(adit_of((PIT, (), (("valve", 0, 5, since),), (), 4))[3], out)
        for since, lost in ((1, [(2, 0)]), (2, [])):
            run = (PIT, ((3, 0, 0),), (("platform", (1, 3), since),), (), 4)
            self.assertEqual(lost_in(run), lost)

    def test_mended_at_once(self):
        faults = (("platform", (1, 3), 1), ("spring", 0, 5, 0), ("valve", 0, 9, 0))
        book = ((3, 0, 0),)
        for number, place in enumerate(("men", "held", "out")):
            for rest in range(4):
                run = (PIT, book, faults, ((rest, ("mend", number)),), 4)
                play = play_by_hand(run)
                self.assertTrue(same(rests_of(run), play.rows), place)
        self.assertEqual(lost_in((PIT, book, faults, ((1, ("mend", 0)),), 4)), [])
        self.assertEqual(lost_in((PIT, book, faults, ((2, ("mend", 0)),), 4)), [(2, 0)])
        self.assertEqual(end_standing((PIT, book, faults, ((1, ("mend", 1)),), 2))[2], (1,))
        self.assertEqual(adit_of((PIT, book, faults, ((3, ("mend", 2)),), 4)), (0, 0, 0, 2))

    def test_several_valves_at_one_lift(self):
        pair = (("valve", 0, 1, 0), ("valve", 0, 2, 0))
        mine = (PIT[0], ((3, 0, 9, 9, 0),), 99, None)
        self.assertEqual(adit_of((mine, (), pair, (), 4)), (0, 0, 0, 6))
        self.assertEqual(adit_of((PIT, (), pair, (), 8)), (0,) * 8)

    def test_missed_strokes_leave_men_where_they_are(self):
        mine = (PIT[0], ((3, 0, 3, 3, 1),), 99, (20, 0, (0, 0, 0, 0, 20)))
        run = (mine, ((3, 0, 0),), (), (), 6)
        self.assertEqual(moved_in(run), (True, True, False, False, False, True))
        self.assertEqual([row[4][0] for row in rests_of(run)], [aside(3), rod(1, 2), rod(0, 1), rod(1, 1), rod(1, 1), rod(1, 1), rod(1, 0)])

    def test_a_thousand_rests(self):
        rows = rests_of((PIT, ((3, 0, 900),), (), (), 1000))
        self.assertEqual((len(rows), rows[-1][:3], rows[-1][4]), (1001, (1000, 1000, (1,)), (GRASS,)))


class Told(unittest.TestCase):

    CALLS = (rests_of, end_standing, adit_of, moved_in, home_in, lost_in, bells_that_save)

    def test_unfit(self):
        for rest in (0, 1, 4):
            run = (PIT, ((2, 0, 0),), (), ((rest, ("couple", 0, True)),), 5)
            for call in self.CALLS:
                with self.assertRaises(Unfit):
                    call(run)
                # Of later rests none is looked at.
                call(run[:4] + (rest,))
            self.assertEqual(with_bell(run, 4)[3][-1], (4, ("bell",)))

    def test_drawn_deeds(self):
        dice = dice_of("drawn deeds")
        kinds = {True: 0, False: 0}
        for _ in range(200):
            mine, book, faults, _, many = random_run(dice)
            told = tuple([
                (rest, random_deed(dice, mine, book, faults)) for rest in range(many + 2) if dice.random() < 0.3])
            run = (mine, book, faults, told, many)
            self.assertIs(is_run(run), True)
            play = play_by_hand(run)
            kinds[play is None] += 1
            for call in self.CALLS:
                if play is None:
                    with self.assertRaises(Unfit):
                        call(run)
            if play is not None:
                self.assertTrue(same(rests_of(run), play.rows))
        self.assertGreater(min(kinds.values()), 30)

    def test_can_do_against_own_play(self):
        dice = dice_of("can do")
        for _ in range(60):
            run = random_run(dice)
            for standing in rests_of(run):
                deed = random_deed(dice, *run[:3])
                expected = MinePlay(run[0], run[2], standing).deed(deed)
                self.assertIs(can_do(run[0], run[2], standing, deed), expected)


class Bells(unittest.TestCase):

    def test_with_bell(self):
        told = ((1, ("stoke", 1)), (3, ("bell",)), (3, ("stoke", 2)), (9, ("bell",)))
        run = (MILL, BOOK, FAULTS, told, 6)
        for rest in range(6):
            found = with_bell(run, rest)
            ahead = [pair for pair in told if pair[0] <= rest]
            expected = (*ahead, (rest, ("bell",)), *told[len(ahead):])
            self.assertTrue(same(found, (MILL, BOOK, FAULTS, expected, 6)))
            self.assertIs(is_run(found), True)
        for rest in (-1, 6, 7, 10 ** 12):
            with self.assertRaises(NoPlace) as caught:
                with_bell(run, rest)
            self.assertEqual(caught.exception.place, rest)
        with self.assertRaises(NoPlace):
            with_bell(run[:4] + (0,), 0)

    def test_bells_that_save(self):
        dice = dice_of("bells")
        kinds = {}
        for _ in range(150):
            run = random_run(dice, 12, most=4, per=dice.choice((3, 9, 30)))
            saved = []
            for rest in range(run[4]):
                ahead = [pair for pair in run[3] if pair[0] <= rest]
                play = play_by_hand(run[:3] + ((*ahead, (rest, ("bell",)), *run[3][len(ahead):]), run[4]))
                kinds[play is None] = True
                if play is not None and all([place == GRASS for place in play.men]):
                    saved.append(rest)
            self.assertTrue(same(bells_that_save(run), tuple(saved)), run)
            kinds[len(saved) > 0] = True
        self.assertEqual(len(kinds), 2)

    def test_a_bell_by_which_a_deed_cannot_be_done(self):
        # Called at rest 0 he rides when he is to board, and is home ahead of it only later.
        run = (PIT, ((2, 1, 9),), (), ((1, ("board", 0, 0)),), 8)
        self.assertEqual(home_in(run), [(4, 0)])
        self.assertEqual(bells_that_save(run), (1, 2, 3, 4, 5, 6, 7))

    def test_no_men(self):
        self.assertEqual(bells_that_save((PIT, (), (), (), 3)), (0, 1, 2))
        self.assertEqual(bells_that_save((PIT, (), (), (), 0)), ())


class Manners(unittest.TestCase):

    def test_manners(self):
        mine, book, faults, told, many = RUN
        check_manners(self, is_mine, {"thing": mine}, ("thing",))
        check_manners(self, are_faults, {"mine": mine, "thing": faults}, ("thing",))
        check_manners(self, is_run, {"thing": RUN}, ("thing",))
        check_manners(self, is_standing, {"mine": mine, "book": FOUR, "faults": faults, "thing": STANDING}, ("thing",))
        check_manners(self, first_standing, {"mine": mine, "book": book})
        for deed in (("board", 1, 2), ("aside", 1), ("couple", 0, False), ("stoke", 3)):
            check_manners(self, can_do, {"mine": mine, "faults": faults, "standing": STANDING, "deed": deed})
            for own in (faults, (("platform", (1, 3), 0), ("spring", 0, 1, 0), ("valve", 1, 1, 0))):
                named = {"mine": mine, "faults": own, "standing": STANDING, "deeds": (deed, ("bell",))}
                check_manners(self, rest_done, named)
        # A cock cannot be done at rest 2 of RUN.
        good = (mine, book, faults, (TOLD[0],) + TOLD[2:], many)
        for run in (RUN, good):
            for call in Told.CALLS:
                check_manners(self, call, {"run": run})
            for rest in (0, 3, 7):
                check_manners(self, with_bell, {"run": run, "rest": rest})
        self.assertEqual(len(rests_of(good)), 8)


if __name__ == "__main__":
    unittest.main()
