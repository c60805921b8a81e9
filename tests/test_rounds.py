"""[22]: rounds."""

import math
import time
import unittest
from unittest import mock

from helpers import ODD_THINGS, check_manners, deep_thing, dice_of, outcome, same, shaft_of
from manrods.errors import NoPlace, TooMuch
from manrods.mines import adit_of, rests_of
from manrods.rounds import (
    adit_far, drowned_from, far_standing, for_good, is_round, last_place, round_of)
from mineplay import GRASS, LOST, MinePlay, aside, first_by_hand, random_faults, random_staff, rod

POND = ((2, True, (0, 0, 0)), ((2, 0, 3, 1, 0),), 2, None)
NARROW = ((4, False, (0, 0, 0, 0, 1)), ((4, 0, 0, 1, 0),), 1, None)
BOTH = ((4, 0, 0), (0, 4, 0))
FAR = 10 ** 12


def is_alike(one, two):
    """Whether two STANDINGS are the same but for rest, made (both even or both odd) and the sump."""
    return one[1] % 2 == two[1] % 2 and one[2][1:] == two[2][1:] and one[3:] == two[3:]


class LongPlay:
    """A run without DEEDS of so many rests, and what it shows by the words of [22]."""

    def __init__(self, mine, book, faults, many):
        self.mine, self.book, self.faults = mine, book, faults
        play = MinePlay(mine, faults, first_by_hand(mine, book))
        self.boarded = [[False] * len(book)]
        for _ in range(many):
            play.go()
            was = self.boarded[-1]
            # Who rides behind a rest has boarded, who has got off is on the grass or aside without an AIM.
            self.boarded.append([
                was[man] or play.men[man][0] == "rod" or play.aims[man] is None for man in range(len(book))])
        self.rows, self.outs = play.rows, play.outs

    def to_come(self, rests):
        made = self.rows[rests][1]
        if any([fault[-1] > made for fault in self.faults]):
            return True
        return any([not was and ride[2] > made for was, ride in zip(self.boarded[rests], self.book)])

    def shows(self, early, late):
        """Whether a ROUND shows itself behind late rests by what was behind early rests."""
        one, two = self.rows[early], self.rows[late]
        stokes = 1 if self.mine[3] is None else len(self.mine[3][2])
        if (late - early) % 2 or (late - early) % stokes or not is_alike(one, two):
            return False
        if one[1] != two[1] and self.to_come(early):
            return False
        if one[2][0] == two[2][0]:
            return True
        brim = max(self.mine[1][0][3], self.mine[2] * self.mine[0][0])
        return one[2][0] < two[2][0] and all([row[2][0] >= brim for row in self.rows[early:late + 1]])

    def first_shown(self):
        """The least number of rests behind which a ROUND shows itself, and those by which it does; None without."""
        for late in range(len(self.rows)):
            found = [early for early in range(late) if self.shows(early, late)]
            if found:
                return late, found
        return None

    def is_round(self, thing):
        """Whether thing is a ROUND as far as it was played."""
        lead, length, growth = thing
        for rests in range(lead, len(self.rows) - length):
            one, two = self.rows[rests], self.rows[rests + length]
            if not is_alike(one, two) or one[2][0] + growth != two[2][0]:
                return False
        return True


def random_case(dice):
    mine, book = random_staff(dice, most=3, last=5, engines=0.4, per=dice.choice((1, 3, 9)))
    return mine, book, random_faults(dice, mine, 2, 6)


def settled_cases(word, many, rests=70):
    """Cases in which a ROUND shows itself early, with their LongPlay and the rests that show it."""
    dice = dice_of(word)
    for _ in range(many):
        case = random_case(dice)
        play = LongPlay(*case, rests)
        shown = play.first_shown()
        if shown is not None and 2 * shown[0] < rests:
            yield case, play, shown


class Rounds(unittest.TestCase):

    def test_against_all_triples(self):
        kinds = {}
        for case, play, (late, earlier) in settled_cases("rounds", 170, 90):
            # What is played behind late and a length is as long as the ROUND that was shown, so it tells all.
            longest, found = 90 - late - (late - max(earlier)), []
            if longest < late - max(earlier):
                continue
            for length in range(1, longest + 1):
                for lead in range(late):
                    growth = play.rows[lead + length][2][0] - play.rows[lead][2][0]
                    if growth >= 0 and play.is_round((lead, length, growth)):
                        found.append((lead, length, growth))
            least = round_of(*case)
            # One has both the least lead and the least length.
            self.assertEqual(least[:2], (min([own[0] for own in found]), min([own[1] for own in found])), case)
            self.assertTrue(same(least, min(found)), case)
            for lead, length, growth in found:
                self.assertEqual((length % least[1], growth), (0, least[2] * (length // least[1])))
            self.check_is_round(case, least, found, late, longest)
            self.assertIn(True, [least[0] <= early for early in earlier])
            for word in (("grows", least[2] > 0), ("led", least[0] > 0), ("long", least[1] > 2)):
                kinds[word] = kinds.get(word, 0) + 1
        self.assertEqual(len(kinds), 6)
        self.assertGreater(min(kinds.values()), 5)

    def check_is_round(self, case, least, found, late, longest):
        told = {own: True for own in found}
        for length in {1, 2, least[1], 2 * least[1], least[1] + 1}:
            for lead in {0, max(0, least[0] - 1), least[0], least[0] + 1}:
                if lead < late and length <= longest:
                    for growth in {0, least[2], 2 * least[2], least[2] + 1}:
                        thing = (lead, length, growth)
                        self.assertIs(is_round(*case, thing), thing in told, (case, thing))

    def test_rounds_far_away(self):
        for lead in (2, 3, 10 ** 12, 10 ** 30):
            for times in (1, 2, 7, 10 ** 12):
                self.assertIs(is_round(POND, (), (), (lead, 2 * times, 2 * times)), True)
                self.assertIs(is_round(POND, (), (), (lead, 2 * times, 2 * times + 1)), False)
                self.assertIs(is_round(POND, (), (), (lead, 2 * times + 1, 2 * times)), False)
                self.assertIs(is_round(POND, (), (), (1, 2 * times, 2 * times)), False)
                self.assertIs(is_round(NARROW, BOTH, (), (lead, 2 * times, 0)), True)
                self.assertIs(is_round(NARROW, BOTH, (), (lead, 2 * times, 1)), False)

    def test_no_rounds(self):
        for thing in (
                *ODD_THINGS, deep_thing(100), (2, 0, 0), (2, 2), (2, 2, 2, 2), [2, 2, 2], (True, 2, 2), (2, True, 2), (2, 2, True),
                (2.0, 2, 2), (-1, 2, 2), (2, -2, -2), (2, 2, -2), (2, 2, None), ((2,), 2, 2)):
            self.assertIs(is_round(POND, (), (), thing), False, thing)
        self.assertIs(is_round(POND, (), (), (2, 2, 2)), True)

    def test_lengths_of_stokes(self):
        # Steam stays at its room: the five stokes are not seen in the least ROUND.
        mine = POND[:3] + ((9, 9, (9, 9, 9, 9, 9)),)
        self.assertEqual(round_of(mine, (), ()), (2, 2, 2))
        # Here they are.
        mine = ((2, True, (0, 0, 0)), ((2, 0, 0, 1, 0),), 2, (9, 0, (0, 0, 0, 0, 0)))
        self.assertEqual(round_of(mine, (), ()), (0, 2, 0))
        poor = ((2, True, (0, 0, 0)), ((2, 0, 1, 1, 0),), 200, (9, 0, (2, 0, 1)))
        lead, length, growth = round_of(poor, (), ())
        self.assertEqual((length % 6, growth), (0, 0))
        self.assertTrue(is_round(poor, (), (), (lead, length, growth)))

    def test_what_is_to_come(self):
        for last in (0, 5, 60, 61):
            book = ((4, 0, last),)
            play = LongPlay(NARROW, book, (), last + 20)
            self.assertEqual(round_of(NARROW, book, ()), (last + 4 + 1, 2, 0))
            self.assertEqual([early for early in range(last) if play.shows(early, early + 2)], [])
            fault = (("spring", 0, 1, last),)
            lead = round_of(POND, (), fault)[0]
            self.assertGreaterEqual(lead + 1, last)

    def test_nothing_comes_while_no_stroke_is_made(self):
        # The weight of 2 is never there: made stays, so neither the man nor the FAULT ever comes.
        mine = ((2, True, (0, 0, 1)), ((2, 0, 1, 1, 1),), 900, (1, 0, (0,)))
        book, faults = ((2, 0, 900),), (("spring", 0, 1, 900),)
        lead, length, growth = round_of(mine, book, faults)
        self.assertEqual((length, growth), (2, 1))
        self.assertEqual(far_standing(mine, book, faults, FAR)[:2], (FAR, 2))
        self.assertEqual(last_place(mine, book, faults, 0), LOST)

    def test_a_lost_man_is_not_to_come(self):
        book = ((2, 0, 10 ** 6),)
        mine = ((2, True, (0, 0, 1)), ((2, 0, 3, 9, 0),), 1, None)
        self.assertEqual(round_of(mine, book, ()), (2, 2, 0))
        self.assertEqual(last_place(mine, book, (), 0), LOST)


class TooFar(unittest.TestCase):

    CALLS = (
        (round_of, ()), (far_standing, (3,)), (adit_far, (3,)), (drowned_from, (1,)), (for_good, ()), (last_place, (0,)))

    def check_too_much(self, mine, book, faults):
        for call, further in self.CALLS:
            if call != last_place or book:
                with self.assertRaises(TooMuch):
                    call(mine, book, faults, *further)
        for thing in ((2, 2, 2), (0, 1, 0), (10 ** 12, 2, 0)):
            with self.assertRaises(TooMuch):
                is_round(mine, book, faults, thing)
        # What is not made like a ROUND is none anyhow.
        for thing in (None, (2, 0, 2), (2, 2), (2, 2, -1), [2, 2, 2], (True, 2, 2), "no"):
            self.assertIs(is_round(mine, book, faults, thing), False)

    def check_no_place(self, mine, book, faults):
        for level in (-1, mine[0][0] + 1, 10 ** 12):
            with self.assertRaises(NoPlace) as caught:
                drowned_from(mine, book, faults, level)
            self.assertEqual(caught.exception.place, level)
        for man in (-1, len(book), 10 ** 12):
            with self.assertRaises(NoPlace) as caught:
                last_place(mine, book, faults, man)
            self.assertEqual(caught.exception.place, man)

    def test_where_it_begins(self):
        # He is home behind last + 5 rests; from there on two rests show it.
        for last, much in ((3993, False), (3994, True), (10 ** 6, True)):
            book = ((4, 0, last),)
            self.check_no_place(NARROW, book, ())
            if much:
                self.check_too_much(NARROW, book, ())
            else:
                self.assertEqual(round_of(NARROW, book, ()), (last + 5, 2, 0))

    def test_who_is_ready_just_now_is_not_to_come(self):
        # Both PLATFORMS that he could board are broken, so nothing but his ready counts.
        faults = (("platform", (0, 3), 0), ("platform", (1, 4), 0))
        for last, much in ((3997, False), (3998, False), (3999, True)):
            book = ((4, 0, last),)
            if much:
                self.check_too_much(NARROW, book, faults)
            else:
                self.assertEqual(round_of(NARROW, book, faults), (0, 2, 0))

    def test_faults_far_away(self):
        for since, much in ((3997, False), (3998, False), (3999, True), (10 ** 6, True)):
            faults = (("platform", (0, 1), since),)
            self.check_no_place(NARROW, (), faults)
            if much:
                self.check_too_much(NARROW, (), faults)
            else:
                # Nobody is there whom it could concern, so all rests are alike.
                self.assertEqual(round_of(NARROW, (), faults), (0, 2, 0))

    def test_slow_sumps(self):
        # One more each swing: the sump holds the brim behind 2 * brim rests, two rests later it is shown.
        for per, much in ((1000, False), (1001, True)):
            mine = ((2, True, (0, 0, 0)), ((2, 0, 2, 1, 0),), per, None)
            play = LongPlay(mine, (), (), 4000)
            self.assertEqual(play.rows[3998][2][0] >= 2 * per, not much)
            if much:
                self.check_too_much(mine, (), ())
            else:
                self.assertEqual(round_of(mine, (), ()), (2, 2, 1))

    def test_shown_just_as_the_words_say(self):
        """With fewer rests allowed it is told at which of them a ROUND shows itself first."""
        kinds = {True: 0, False: 0}
        dice = dice_of("words")
        for _ in range(150):
            case = random_case(dice)
            shown = LongPlay(*case, 40).first_shown()
            kinds[shown is None] += 1
            for allowed in (40,) if shown is None else (shown[0] - 1, shown[0]):
                with mock.patch("manrods.rounds.MOST_RESTS", allowed):
                    told = outcome(round_of, *case)
                much = shown is None or allowed < shown[0]
                self.assertEqual(told[:2] == ("error", "TooMuch"), much, (case, shown, allowed))
        self.assertGreater(min(kinds.values()), 8)


class Far(unittest.TestCase):

    def test_near_by_play(self):
        for case, play, _ in settled_cases("near", 150):
            outs = [0]
            for out in play.outs:
                outs.append(outs[-1] + out)
            for rests in range(71):
                if rests % 7 == 0 or rests < 12:
                    self.assertTrue(same(far_standing(*case, rests), play.rows[rests]), (case, rests))
                    self.assertTrue(same(adit_far(*case, rests), outs[rests]))

    def test_far_by_rounds(self):
        for case, play, _ in settled_cases("far", 60):
            lead, length, growth = round_of(*case)
            near = lead + (FAR - lead) % length
            times = (FAR - near) // length
            one, two = play.rows[near], far_standing(*case, FAR)
            strokes = play.rows[lead + length][1] - play.rows[lead][1]
            if strokes % 2:
                # Such a ROUND cannot be: made would not be both even or both odd.
                self.fail(case)
            expected = (FAR, one[1] + times * strokes, (one[2][0] + times * growth, *one[2][1:]), *one[3:])
            self.assertTrue(same(two, expected))
            out = sum(play.outs[lead:lead + length])
            self.assertEqual(adit_far(*case, FAR), sum(play.outs[:near]) + times * out)

    def test_at_once(self):
        begun = time.process_time()
        for _ in range(20):
            self.assertEqual(far_standing(POND, (), (), FAR)[:3], (FAR, FAR, (10 ** 12 + 1,)))
            self.assertEqual(adit_far(POND, (), (), FAR), 5 * 10 ** 11 - 1)
        self.assertLess(time.process_time() - begun, 2)

    def test_against_rests_of(self):
        mine = ((3, True, (0, 2, 2, 2)), ((3, 0, 3, 2, 0), (1, 2, 1, 2, 1)), 5, (20, 3, (4, 9, 2)))
        book, faults = ((2, 0, 3), (0, 3, 8)), (("spring", 0, 1, 12), ("valve", 1, 1, 5))
        run = (mine, book, faults, (), 300)
        rows, outs = rests_of(run), adit_of(run)
        for rests in (0, 1, 17, 50, 51, 52, 53, 54, 55, 299, 300):
            self.assertTrue(same(far_standing(mine, book, faults, rests), rows[rests]))
            self.assertEqual(adit_far(mine, book, faults, rests), sum(outs[:rests]))


class Levels(unittest.TestCase):

    def wet(self, mine, row, level):
        return level > 0 and row[2][0] >= mine[2] * (mine[0][0] - level + 1)

    def test_drowned_from(self):
        kinds = {}
        for case, play, _ in settled_cases("drowned", 200):
            mine = case[0]
            growth = round_of(*case)[2]
            for level in range(mine[0][0] + 1):
                wet = [rests for rests, row in enumerate(play.rows) if self.wet(mine, row, level)]
                found = drowned_from(*case, level)
                if wet:
                    self.assertTrue(same(found, wet[0]))
                elif growth == 0 or level == 0:
                    self.assertIsNone(found)
                else:
                    # Far away: there it is drowned, ahead of that it is not.
                    self.assertGreater(found, 70)
                    self.assertTrue(self.wet(mine, far_standing(*case, found), level))
                    for rests in range(found - 12, found):
                        self.assertFalse(self.wet(mine, far_standing(*case, rests), level))
                kinds[bool(wet), growth > 0] = True
        self.assertEqual(len(kinds), 4)

    def test_drowned_far_away(self):
        mine = ((2, True, (0, 0, 0)), ((2, 0, 2, 1, 0),), 990, None)
        # One more each swing; the sump holds swing + 1 behind swing + 1 of them.
        self.assertEqual([drowned_from(mine, (), (), level) for level in (2, 1)], [2 * 989, 2 * 1979])
        slow = ((2, True, (0, 0, 0)), ((2, 0, 2, 1, 0), (1, 10, 0, 1, 1)), 5, None)
        for level in (1, 2):
            found = drowned_from(slow, (), (), level)
            play = LongPlay(slow, (), (), found)
            self.assertEqual([self.wet(slow, row, level) for row in play.rows], [False] * found + [True])

    def test_for_good(self):
        kinds = {}
        for case, play, (late, _) in settled_cases("for good", 200):
            mine = case[0]
            lead, length, growth = round_of(*case)
            levels = range(1, mine[0][0] + 1)
            own = tuple([level for level in levels if growth > 0 or all([
                self.wet(mine, row, level) for row in play.rows[lead:lead + length]])])
            self.assertTrue(same(for_good(*case), own), case)
            if growth > 0:
                self.assertEqual(own, tuple(levels))
            now_and_then = [level for level in levels if any([
                self.wet(mine, row, level) for row in play.rows[lead:lead + length]])]
            kinds[growth > 0, len(own), len(now_and_then) > len(own)] = True
            self.assertGreaterEqual(late, lead)
        self.assertGreater(len(kinds), 4)
        self.assertIn(True, [kind[2] for kind in kinds])

    def test_last_place(self):
        kinds = {}
        for case, play, _ in settled_cases("places", 250):
            lead, length, _ = round_of(*case)
            for man in range(len(case[1])):
                places = {row[4][man] for row in play.rows[lead:lead + 2 * length]}
                own = list(places)[0] if len(places) == 1 else None
                self.assertTrue(same(last_place(*case, man), own), case)
                kinds[own and own[0]] = True
        for word in (None, "grass", "aside", "lost"):
            self.assertIn(word, kinds)

    def test_places_on_a_rod(self):
        # No stroke is made any more: he stays on the PLATFORM that he has boarded at the grass.
        mine = ((3, True, (0, 0, 0, 1)), ((3, 0, 1, 1, 1),), 1, (2, 0, (0,)))
        self.assertEqual(last_place(mine, ((0, 3, 2),), (), 0), rod(0, 0))
        self.assertEqual(last_place(mine, ((0, 3, 1),), (), 0), LOST)
        self.assertEqual(last_place(mine, ((0, 3, 3),), (), 0), GRASS)
        dry = (shaft_of(3, True, 1), ((3, 0, 1, 1, 1),), 10, None)
        self.assertEqual(last_place(dry, ((3, 2, 0),), (), 0), aside(2))
        self.assertEqual(last_place(dry, ((3, 0, 900),), (), 0), GRASS)


class Manners(unittest.TestCase):

    def test_manners(self):
        mine = ((3, True, (0, 2, 2, 2)), ((3, 0, 3, 2, 0), (1, 2, 1, 2, 1)), 5, (20, 3, (4, 9, 2)))
        named = {"mine": mine, "book": ((2, 0, 3), (0, 3, 8)), "faults": (("spring", 0, 1, 12), ("valve", 1, 1, 5))}
        for own in (named, {**named, "book": ((2, 0, 9000),)}):
            check_manners(self, round_of, own)
            check_manners(self, for_good, own)
            check_manners(self, is_round, {**own, "thing": (40, 12, 0)}, ("thing",))
            for rest in (3, FAR):
                check_manners(self, far_standing, {**own, "rest": rest})
                check_manners(self, adit_far, {**own, "rest": rest})
            for level in (0, 2, 4):
                check_manners(self, drowned_from, {**own, "level": level})
            for man in (0, 2):
                check_manners(self, last_place, {**own, "man": man})
        self.assertEqual(math.gcd(round_of(**named)[1], 2), 2)


if __name__ == "__main__":
    unittest.main()
