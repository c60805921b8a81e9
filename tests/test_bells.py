"""[18]: the last bell."""

import itertools
import time
import unittest

from helpers import ODD_THINGS, check_manners, deep_thing, dice_of, listed, outcome, same, spoilt
from manrods.bells import (
    all_saved, are_bars, depth_counts, is_lasts, is_lot, is_muster, is_saving, last_bell, leads, lot, most_saved, rescue,
    saving, slots_left)
from manrods.errors import CanNot

LASTS, BARS = (9, 5, 2), ((0, 0, 4),)
MUSTER = ((3, 0), (3, 0), (2, 2), (1, 3))
FAR = 60


def rises(lasts, bars, level, end, slot):
    """Whether somebody with slot gets from level to end, stroke by stroke; he boards at made slot - level."""
    made, at = slot - level, level
    if made < 0:
        return False
    while at > end:
        if lasts[at - 1] is not None and made > lasts[at - 1]:
            return False
        if any([stride == at - 1 and colour == slot % 2 and made >= since for stride, colour, since in bars]):
            return False
        at -= 1
        made += 1
    return True


def slots_of_man(lasts, bars, man):
    """His slots below FAR, one by one."""
    level, ready = man
    return [slot for slot in range(ready + level, FAR) if rises(lasts, bars, level, 0, slot)]


def most_by_all(rows):
    """The most men who have unlike slots out of their rows, by going through all."""
    if not rows:
        return 0
    best = most_by_all(rows[1:])
    for slot in rows[0]:
        best = max(best, 1 + most_by_all([[own for own in row if own != slot] for row in rows[1:]]))
    return best


def deepest_first(lasts, bars, muster):
    """rescue slot by slot, by its words."""
    rows = [slots_of_man(lasts, bars, man) for man in muster]
    taken = [None] * len(muster)
    for slot in range(FAR):
        best = None
        for man, (level, _) in enumerate(muster):
            if taken[man] is None and slot in rows[man] and (best is None or level > muster[best][0]):
                best = man
        if best is not None:
            taken[best] = slot
    return tuple(taken)


def random_lasts(dice, deep, last):
    return tuple([None if dice.random() < 0.15 else dice.randint(-1, last) for _ in range(deep)])


def random_bars(dice, deep, most, last):
    bars = {(dice.randrange(deep), dice.randint(0, 1), dice.randint(0, last)) for _ in range(dice.randint(0, most))}
    return tuple(sorted(bars))


def random_case(dice, most_men=5, last=8):
    deep = dice.randint(2, 5)
    muster = tuple([(dice.randint(1, deep), dice.randint(0, 4)) for _ in range(dice.randint(0, most_men))])
    return random_lasts(dice, deep, last), random_bars(dice, deep, 4, last), muster


class Things(unittest.TestCase):

    def test_lasts(self):
        for lasts in ((0, 0, 0), (None, None, None), (-1, 10 ** 30, None)):
            self.assertIs(is_lasts(lasts, 3), True)
            self.assertIs(is_lasts(list(lasts), 3), False)
            self.assertIs(is_lasts(lasts, 2), False)
            self.assertIs(is_lasts(lasts, 4), False)
        for thing in ((0, 0, -2), (0, True, 0), (False, 0, 0), (0, 0, "0"), (0, 0, (0,)), (0, 0, []), None, 3, deep_thing(100)):
            self.assertIs(is_lasts(thing, 3), False, thing)
        for thing in spoilt((3, None, -1)):
            good = type(thing) is tuple and len(thing) == 3
            good = good and all([own is None or type(own) is int and own >= -1 for own in thing])
            self.assertIs(is_lasts(thing, 3), good, thing)

    def test_bars(self):
        for bars in ((), ((0, 0, 0),), ((0, 0, 5), (0, 1, 3), (2, 1, 0), (2, 1, 10 ** 30))):
            self.assertIs(are_bars(bars, 3), True)
            self.assertIs(are_bars(list(bars), 3), False)
        self.assertIs(are_bars(([0, 0, 0],), 3), False)
        bad = [((3, 0, 0),), ((-1, 0, 0),), ((0, 2, 0),), ((0, -1, 0),), ((0, 0, -1),), ((True, 0, 0),), ((0, False, 0),),
               ((0, 0, True),), ((0, 0, 0), (0, 0, 0)), ((0, 1, 0), (0, 0, 5)), ((1, 0, 0), (0, 1, 9)), ((0, 0, 5), (0, 0, 4)),
               ((0, 0),), ((0, 0, 0, 0),), (0, 0, 0), ((0, 0, None),), None, deep_thing(100)]
        for thing in bad:
            self.assertIs(are_bars(thing, 3), False, thing)
        self.assertIs(are_bars(((1, 0, 0),), 1), False)
        for thing in spoilt(((0, 1, 2), (1, 0, 1))):
            good = type(thing) is tuple and all([type(bar) is tuple and len(bar) == 3 for bar in thing])
            good = good and all([type(part) is int and part >= 0 for bar in thing for part in bar])
            good = good and all([bar[0] < 3 and bar[1] < 2 for bar in thing]) and list(thing) == sorted(set(thing))
            self.assertIs(are_bars(thing, 3), good, thing)

    def test_musters(self):
        for muster in ((), ((1, 0),), ((3, 5), (3, 5), (1, 10 ** 30)), ((2, 0),) * 300):
            self.assertIs(is_muster(muster, 3), True)
            self.assertIs(is_muster(list(muster), 3), False)
        self.assertIs(is_muster(([1, 0],), 3), False)
        for thing in (((0, 0),), ((4, 0),), ((1, -1),), ((True, 0),), ((1, False),), ((1,),), ((1, 0, 0),), (1, 0), ((1, None),),
                      None, "a", deep_thing(100)):
            self.assertIs(is_muster(thing, 3), False, thing)
        for thing in spoilt(((1, 2), (3, 0))):
            good = type(thing) is tuple and all([type(man) is tuple and len(man) == 2 for man in thing])
            good = good and all([type(part) is int for man in thing for part in man])
            good = good and all([1 <= level <= 3 and ready >= 0 for level, ready in thing])
            self.assertIs(is_muster(thing, 3), good, thing)

    def test_odd_things(self):
        for thing in ODD_THINGS:
            self.assertIs(is_lasts(thing, 9), False)
            self.assertIs(are_bars(thing, 9), thing == () and type(thing) is tuple, thing)
            fine = type(thing) is tuple and thing in ((), ((1, 2), (3, 4)))
            self.assertIs(is_muster(thing, 9), fine, thing)


class Leading(unittest.TestCase):

    def test_leads(self):
        dice = dice_of("leads")
        kinds = {True: 0, False: 0}
        for _ in range(200):
            lasts, bars, _ = random_case(dice)
            for level in range(1, len(lasts) + 1):
                for end, slot in itertools.product(range(level), range(18)):
                    good = rises(lasts, bars, level, end, slot)
                    self.assertIs(leads(lasts, bars, level, end, slot), good, (lasts, bars, level, end, slot))
                    kinds[good] += 1
        self.assertGreater(min(kinds.values()), 500)

    def test_edges(self):
        self.assertEqual([slot for slot in range(9) if leads((None, 3), (), 2, 1, slot)], [2, 3, 4, 5])
        self.assertEqual([slot for slot in range(9) if leads((-1, None), (), 2, 1, slot)], [2, 3, 4, 5, 6, 7, 8])
        self.assertEqual([slot for slot in range(9) if leads((-1, None), (), 2, 0, slot)], [])
        self.assertEqual([slot for slot in range(9) if leads((None, None), ((1, 0, 2),), 2, 0, slot)], [2, 3, 5, 7])
        self.assertIs(leads((None, None), (), 2, 0, 10 ** 12), True)

    def test_slots_left(self):
        dice = dice_of("slots left")
        kinds = {None: 0}
        for _ in range(300):
            lasts, bars, _ = random_case(dice)
            level = dice.randint(1, len(lasts))
            for first in (0, level, level + 1, dice.randint(0, 20)):
                rows = slots_of_man(lasts, bars, (level, max(0, first - level)))
                expected = None if FAR - 1 in rows or FAR - 2 in rows else len([slot for slot in rows if slot >= first])
                self.assertEqual(slots_left(lasts, bars, level, first), expected, (lasts, bars, level, first))
                kinds[expected] = kinds.get(expected, 0) + 1
        self.assertGreater(kinds[None], 10)
        self.assertGreater(len(kinds), 6)

    def test_one_colour_without_end(self):
        self.assertIsNone(slots_left((None, None), ((0, 0, 3),), 2, 0))
        self.assertEqual(slots_left((None, None), ((0, 0, 3), (0, 1, 3)), 2, 0), 2)
        self.assertEqual(slots_left((10 ** 12, None), (), 2, 5), 10 ** 12 - 3)


class Saving(unittest.TestCase):

    def test_rescue(self):
        dice = dice_of("rescue")
        kinds = {True: 0, False: 0}
        for _ in range(700):
            lasts, bars, muster = random_case(dice, 5, 5)
            slots = deepest_first(lasts, bars, muster)
            self.assertTrue(same(rescue(lasts, bars, muster), slots), (lasts, bars, muster))
            saved = len(muster) - slots.count(None)
            self.assertEqual(most_saved(lasts, bars, muster), saved)
            rows = [[slot for slot in slots_of_man(lasts, bars, man)][:6] for man in muster]
            self.assertEqual(saved, most_by_all(rows))
            everybody = None not in slots
            self.assertIs(all_saved(lasts, bars, muster), everybody)
            self.check_papers(lasts, bars, muster, slots)
            kinds[everybody] += 1
        self.assertGreater(min(kinds.values()), 100)

    def check_papers(self, lasts, bars, muster, slots):
        found, other = outcome(saving, lasts, bars, muster), outcome(lot, lasts, bars, muster)
        if None in slots:
            self.assertEqual(found[:2], ("error", "CanNot"))
            self.assertIs(is_lot(lasts, bars, muster, other[1]), True)
        else:
            self.assertEqual(other[:2], ("error", "CanNot"))
            self.assertTrue(same(found, ("value", slots)))
            self.assertIs(is_saving(lasts, bars, muster, slots), True)

    def test_lots_by_all(self):
        dice = dice_of("lots")
        count = 0
        for _ in range(250):
            lasts, bars, muster = random_case(dice, 5, 5)
            rows = [slots_of_man(lasts, bars, man) for man in muster]
            for many in range(len(muster) + 1):
                for men in itertools.combinations(range(len(muster)), many):
                    slots = {slot for man in men for slot in rows[man]}
                    good = men != () and len(slots) < len(men)
                    self.assertIs(is_lot(lasts, bars, muster, men), good, (lasts, bars, muster, men))
                    count += good
        self.assertGreater(count, 100)

    def test_things_that_are_no_lot(self):
        lasts, bars, muster = (4, 2), ((1, 1, 0),), ((1, 3), (1, 3), (2, 0), (2, 0))
        self.assertIs(is_lot(lasts, bars, muster, (0, 1, 2, 3)), True)
        for thing in [*spoilt((0, 1, 2, 3)), *ODD_THINGS, deep_thing(100), (3, 2, 1, 0), (0, 0, 1, 2, 3), (0, 1, 2, 3, 4), (-1, 0, 1, 2, 3),
                      (False, True, 2, 3), 0, (0,)]:
            self.assertIs(is_lot(lasts, bars, muster, thing), False, thing)
        self.assertIs(is_lot((-1, -1), (), ((1, 0),), (0,)), True)
        self.assertIs(is_lot((-1, -1), (), ((1, 0),), (False,)), False)
        self.assertIs(is_lot((-1, -1), (), (), ()), False)
        self.assertIs(is_lot((None, None), (), ((1, 0),) * 3, (0, 1, 2)), False)
        # One of three has no slot, another one slots of both colours without end.
        self.assertIs(is_lot((None, -1), (), ((2, 0), (2, 0), (1, 0)), (0, 1, 2)), False)
        self.assertIs(is_lot((None, -1), (), ((2, 0), (2, 0), (1, 0)), (0, 1)), True)

    def test_savings_by_all(self):
        dice = dice_of("savings")
        count = 0
        for _ in range(120):
            lasts, bars, muster = random_case(dice, 3, 7)
            rows = [slots_of_man(lasts, bars, man) for man in muster]
            for thing in itertools.product(range(-1, 8), repeat=len(muster)):
                good = len(set(thing)) == len(thing) and all([slot in row for slot, row in zip(thing, rows)])
                self.assertIs(is_saving(lasts, bars, muster, thing), good)
                count += good
        self.assertGreater(count, 100)

    def test_things_that_are_no_saving(self):
        self.assertIs(is_saving(LASTS, BARS, MUSTER, (3, 4, 5, 7)), True)
        self.assertIs(is_saving(list(LASTS), listed(BARS), listed(MUSTER), (3, 4, 5, 7)), True)
        rows = [slots_of_man(LASTS, BARS, man) for man in MUSTER]
        for thing in [*spoilt((3, 4, 5, 7)), *ODD_THINGS, deep_thing(100)]:
            good = type(thing) is tuple and len(thing) == 4 and all([type(slot) is int for slot in thing])
            good = good and len(set(thing)) == 4 and all([slot in row for slot, row in zip(thing, rows)])
            self.assertIs(is_saving(LASTS, BARS, MUSTER, thing), good, thing)
        self.assertIs(is_saving((None,) * 2, (), ((1, 0),), (True,)), False)
        self.assertIs(is_saving((None,) * 2, (), ((1, 0),), (1,)), True)
        self.assertIs(is_saving((None,) * 2, (), ((1, 0),), (10 ** 30,)), True)

    def test_nobody(self):
        for lasts in ((-1, -1), (None, 3)):
            self.assertEqual((rescue(lasts, (), ()), saving(lasts, (), ()), most_saved(lasts, (), ())), ((), (), 0))
            self.assertIs(all_saved(lasts, (), ()), True)
            self.assertIs(is_saving(lasts, (), (), ()), True)
            with self.assertRaises(CanNot):
                lot(lasts, (), ())

    def test_forty_men(self):
        begun = time.process_time()
        dice = dice_of("forty")
        for _ in range(40):
            deep = 40
            last = dice.choice((5, 20, 10 ** 6))
            lasts = tuple([None if dice.random() < 0.1 else dice.randint(0, last) + deep - at for at in range(deep)])
            bars = random_bars(dice, deep, 60, last)
            ready = dice.choice((5, 20, 10 ** 6))
            muster = tuple([(dice.randint(1, deep), dice.randint(0, ready)) for _ in range(40)])
            slots = rescue(lasts, bars, muster)
            self.check_papers(lasts, bars, muster, slots)
            self.assertEqual(most_saved(lasts, bars, muster), 40 - slots.count(None))
        self.assertEqual(rescue((None,) * 40, (), ((40, 10 ** 6),) * 40), tuple(range(10 ** 6 + 40, 10 ** 6 + 80)))
        self.assertLess(time.process_time() - begun, 30)


class Bell(unittest.TestCase):

    def test_depth_counts(self):
        dice = dice_of("depth")
        for _ in range(200):
            lasts, bars, _ = random_case(dice)
            levels = tuple([dice.randint(1, len(lasts)) for _ in range(dice.randint(1, 6))])
            ready = dice.randint(0, 6)
            rows = []
            for level in sorted(set(levels)):
                slots = slots_of_man(lasts, bars, (level, ready))
                endless = bool(slots) and slots[-1] >= FAR - 2
                rows.append((level, len([own for own in levels if own >= level]), None if endless else len(slots)))
            self.assertTrue(same(depth_counts(lasts, bars, levels, ready), rows))
            enough = all([slots is None or men <= slots for _, men, slots in rows])
            self.assertIs(all_saved(lasts, bars, tuple([(level, ready) for level in levels])), enough)

    def test_last_bell(self):
        dice = dice_of("last bell")
        kinds = {}
        for _ in range(500):
            lasts, bars, _ = random_case(dice, 5, 9)
            levels = tuple([dice.randint(1, len(lasts)) for _ in range(dice.randint(1, 4))])
            good = [ready for ready in range(40) if None not in deepest_first(lasts, bars, [(level, ready) for level in levels])]
            self.assertEqual(good, list(range(len(good))))
            found = outcome(last_bell, lasts, bars, levels)
            if not good:
                self.assertEqual(found[:2], ("error", "CanNot"))
            else:
                self.assertEqual(found[1], None if len(good) == 40 else good[-1], (lasts, bars, levels))
            kinds[found[1]] = kinds.get(found[1], 0) + 1
        for kind in ("CanNot", None, 0, 1, 3):
            self.assertGreater(kinds.get(kind, 0), 5, kinds)

    def test_edges(self):
        self.assertEqual([last_bell((5, 5), (), (1,) * many) for many in (1, 2, 6)], [5, 4, 0])
        with self.assertRaises(CanNot):
            last_bell((5, 5), (), (1,) * 7)
        with self.assertRaises(CanNot):
            last_bell((None, -1), (), (2,))
        # At level 1 there is no end, at level 2 there is.
        self.assertIsNone(last_bell((None, -1), (), (1, 1, 1)))
        self.assertEqual(last_bell((None, 3), (), (1, 1, 2)), 3)
        self.assertEqual(last_bell((10 ** 12, 10 ** 12), (), (1, 2)), 10 ** 12 - 1)
        # One colour has an end, the other one has none.
        self.assertIsNone(last_bell((None, None), ((0, 0, 3),), (2, 2, 2)))


class Manners(unittest.TestCase):

    def test_manners(self):
        check_manners(self, is_lasts, {"thing": LASTS, "deep": 3}, ("thing",))
        check_manners(self, are_bars, {"thing": BARS, "deep": 3}, ("thing",))
        check_manners(self, is_muster, {"thing": MUSTER, "deep": 3}, ("thing",))
        told = {"lasts": LASTS, "bars": BARS}
        check_manners(self, leads, {**told, "level": 2, "end": 1, "slot": 6})
        check_manners(self, slots_left, {**told, "level": 1, "first": 4})
        for muster in (MUSTER, ((3, 1), (3, 1), (3, 1))):
            for call in (all_saved, saving, lot, rescue, most_saved):
                check_manners(self, call, {**told, "muster": muster})
            check_manners(self, is_saving, {**told, "muster": muster, "thing": (3, 4, 5, 7)}, ("thing",))
            check_manners(self, is_lot, {**told, "muster": muster, "thing": (0, 1, 2)}, ("thing",))
        check_manners(self, depth_counts, {**told, "levels": (3, 2, 2, 1), "ready": 3})
        for levels in ((3, 2, 2, 1), (3,) * 9):
            check_manners(self, last_bell, {**told, "levels": levels})


if __name__ == "__main__":
    unittest.main()
