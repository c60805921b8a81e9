"""[21]: accounts."""

import unittest

from helpers import check_manners, dice_of, same
from manrods.accounts import (
    fallen, ledger, ledger_on, men_book, raised, steam_book, stride_book, water_book, water_sum)
from manrods.errors import Unfit
from manrods.mines import first_standing, lost_in, moved_in, rests_of
from mineplay import MinePlay, play_by_hand, play_on_by_hand, random_run

PIT = ((3, True, (0, 9, 9, 9)), ((3, 0, 1, 2, 0),), 9, None)
TENDER = (PIT[:3] + ((9, 4, (3, 0)),), (), (), (), 6)
CALLS = (water_book, water_sum, raised, fallen, steam_book, men_book, stride_book, ledger)


def heights_by_hand(mine):
    """The levels that each lift goes up."""
    levels = [cistern[0] for cistern in mine[1]] + [0]
    return [len(range(levels[at + 1], levels[at])) for at in range(len(mine[1]))]


def raised_by_hand(play):
    return sum([amount * height for amount, height in zip(play.lifted, heights_by_hand(play.mine))])


def fallen_by_hand(play):
    levels = [cistern[0] for cistern in play.mine[1]]
    down = [(play.spilt[at] + play.let[at]) * (levels[at - 1] - levels[at]) for at in range(1, len(levels))]
    return sum(down)


def ledger_by_hand(play):
    """The ledger of a MinePlay from its first row on."""
    first, last = play.rows[0], play.rows[-1]
    lost = [man for man, place in enumerate(last[4]) if place == ("lost",) and first[4][man] != ("lost",)]
    ups, downs = [sum([ways[at] for ways in play.man_ways]) for at in (0, 1)]
    return (
        last[0] - first[0], last[1] - first[1], sum(play.came), sum(play.outs), raised_by_hand(play), fallen_by_hand(play),
        ups, downs, len(lost))


def level_of(place, was):
    """The level of a PLACE; was for who is lost."""
    return {"grass": 0, "lost": was}.get(place[0], place[-1])


class Books(unittest.TestCase):

    def test_against_own_play(self):
        dice = dice_of("accounts")
        seen = {}
        for _ in range(400):
            run = random_run(dice)
            play = play_by_hand(run)
            rows = tuple(zip(play.came, play.lifted, play.spilt, play.let, play.held))
            self.assertTrue(same(water_book(run), rows), run)
            self.assertTrue(same(water_sum(run), (sum(play.came), sum(play.outs), sum(play.held))))
            self.assertTrue(same(raised(run), raised_by_hand(play)))
            self.assertTrue(same(fallen(run), fallen_by_hand(play)))
            steam = None
            if run[0][3] is not None:
                steam = (play.given, play.spent, play.over, play.steam)
            self.assertTrue(same(steam_book(run), steam))
            self.assertTrue(same(men_book(run), tuple([tuple(ways) for ways in play.man_ways])))
            self.assertTrue(same(stride_book(run), tuple([tuple(ways) for ways in play.stride_ways])))
            self.assertTrue(same(ledger(run), ledger_by_hand(play)))
            for word in ("came", "lifted", "spilt", "let"):
                seen[word] = seen.get(word, 0) + any(getattr(play, word))
            for word in ("spent", "over", "drops"):
                seen[word] = seen.get(word, 0) + bool(getattr(play, word))
        self.assertGreater(min(seen.values()), 10, seen)

    def test_without_rests(self):
        run = (PIT, ((2, 0, 0),), (), ((0, ("bell",)),), 0)
        self.assertEqual(water_book(run), ((0, 0, 0, 0, 0),))
        self.assertEqual((water_sum(run), raised(run), fallen(run), steam_book(run)), ((0, 0, 0), 0, 0, None))
        self.assertEqual((men_book(run), stride_book(run)), (((0, 0),), ((0, 0),) * 3))
        self.assertEqual(ledger(run), (0,) * 9)
        self.assertEqual(steam_book(TENDER[:4] + (0,)), (4, 0, 0, 4))

    def test_deeds_stoke_too(self):
        told = ((0, ("stoke", 2)), (0, ("stoke", 9)), (5, ("stoke", 1)))
        run = TENDER[:3] + (told, 6)
        self.assertEqual(steam_book(run), (4 + 9 + 12, 6, 6 + 3 + 3 + 1, 6))
        self.assertEqual(rests_of(run)[-1][3], 6)

    def test_unfit(self):
        for rest in (0, 3):
            for deed in (("couple", 0, True), ("stoke", 1), ("cock", 0, 1)):
                run = (PIT, ((2, 0, 0),), (), ((rest, deed),), 4)
                for call in CALLS:
                    with self.assertRaises(Unfit):
                        call(run)
                    call(run[:4] + (rest,))
                with self.assertRaises(Unfit):
                    ledger_on(PIT, (), first_standing(PIT, run[1]), run[3], 4)


class Ledgers(unittest.TestCase):

    def test_cut_in_two(self):
        dice = dice_of("ledgers")
        lost = 0
        for _ in range(150):
            mine, book, faults, told, many = run = random_run(dice)
            whole, rows = ledger(run), rests_of(run)
            lost += whole[8]
            for cut in range(many + 1):
                early = ledger((mine, book, faults, told, cut))
                late = ledger_on(mine, faults, rows[cut], told, many - cut)
                self.assertTrue(same(tuple([one + two for one, two in zip(early, late)]), whole), (run, cut))
                # What was told for rests ahead of it is not done again, and may as well be left out.
                left = tuple([pair for pair in told if pair[0] >= cut])
                self.assertEqual(ledger_on(mine, faults, rows[cut], left, many - cut), late)
                self.assertEqual(ledger_on(mine, faults, rows[cut], told, 0), (0,) * 9)
        self.assertGreater(lost, 50)

    def test_from_whatever_standing(self):
        dice = dice_of("whatever")
        for _ in range(100):
            mine, book, faults, told, many = random_run(dice)
            rows = rests_of((mine, book, faults, told, many))
            standing = dice.choice(rows)
            further = dice.randint(0, 9)
            play = play_on_by_hand(MinePlay(mine, faults, standing), told, further)
            if play is None:
                with self.assertRaises(Unfit):
                    ledger_on(mine, faults, standing, told, further)
            else:
                self.assertTrue(same(ledger_on(mine, faults, standing, told, further), ledger_by_hand(play)))


class Guarantees(unittest.TestCase):

    def test_all(self):
        dice = dice_of("what came")
        for _ in range(250):
            run = random_run(dice)
            rows, book = rests_of(run), water_book(run)
            came, out, held = water_sum(run)
            self.assertEqual(came, out + held)
            for at, (own_came, lifted, spilt, let, left) in enumerate(book):
                below = book[at - 1][1] if at > 0 else 0
                above = sum(book[at + 1][2:4]) if at + 1 < len(book) else 0
                self.assertEqual(own_came + below + above, lifted + spilt + let + left)
            levels = [cistern[0] for cistern in run[0][1]]
            units = sum([(own[0] - own[4]) * level for own, level in zip(book, levels)])
            self.assertEqual(units, raised(run) - fallen(run))
            if run[0][3] is not None:
                given, spent, over, left = steam_book(run)
                self.assertEqual(spent, raised(run))
                self.assertEqual(given, spent + over + left)
                self.assertEqual(left, rows[-1][3])
            total = ledger(run)
            self.assertEqual(total[:4], (run[4], sum(moved_in(run)), came, out))
            self.assertEqual(total[8], len(lost_in(run)))
            for at in (0, 1):
                sums = [sum([ways[at] for ways in told(run)]) for told in (men_book, stride_book)]
                self.assertEqual(sums, [total[6 + at]] * 2)

    def test_strides(self):
        dice = dice_of("strides")
        for _ in range(150):
            run = random_run(dice)
            play = play_by_hand(run)
            lost_at = dict(play.drops)
            first, last = play.rows[0][4], play.rows[-1][4]
            if any([fault[0] == "platform" for fault in run[2]]):
                continue
            for stride, (ups, downs) in enumerate(stride_book(run)):
                begun = [man for man, place in enumerate(first) if level_of(place, None) > stride]
                ended = [man for man, place in enumerate(last) if level_of(place, lost_at.get(man)) > stride]
                self.assertEqual(downs - ups, len(ended) - len(begun))


class Manners(unittest.TestCase):

    def test_manners(self):
        mine = ((3, False, (0, 2, 2, 2)), ((3, 0, 2, 2, 0), (1, 1, 0, 1, 0)), 3, (9, 4, (3, 0)))
        faults = (("spring", 1, 1, 2), ("valve", 0, 1, 0))
        told = ((0, ("stoke", 2)), (2, ("bell",)), (3, ("mend", 0)))
        book = ((3, 0, 1), (0, 2, 0))
        for run in ((mine, book, faults, told, 5), (mine, book, faults, told + ((3, ("mend", 0)),), 5)):
            for call in CALLS:
                check_manners(self, call, {"run": run})
            standing = rests_of((mine, book, faults, told, 3))[2]
            named = {"mine": mine, "faults": faults, "standing": standing, "told": run[3], "many": 4}
            check_manners(self, ledger_on, named)
        self.assertEqual(ledger((mine, book, faults, told, 5))[0], 5)


if __name__ == "__main__":
    unittest.main()
