"""[6]: meetings, passings, clashes, streams."""

import itertools
import unittest

from helpers import all_rides, check_manners, dice_of, random_book, same
from manrods.errors import Unfit
from manrods.meetings import clash, clashes, meeting, meeting_gaps, meetings, passing, stream_meetings, web
from manrods.rides import is_riser, later_book, mark_of


def doubled_way(ride):
    """The dict of twice the height at twice each moment strictly between boarding and getting off."""
    start, to, ready = ride
    step = 1 if to > start else -1
    return {2 * ready + k: 2 * start + step * k for k in range(1, 2 * abs(to - start))}


def moments_of(ride, other):
    """The list of (twice made, twice level) at which they are at one height."""
    one, two = doubled_way(ride), doubled_way(other)
    return [(at, one[at]) for at in sorted(one) if at in two and one[at] == two[at]]


def strokes_on(ride):
    """The list of (made, level, up or down) of the strokes of a ride: who wants which platform when."""
    start, to, ready = ride
    step = 1 if to > start else -1
    return [(ready + k, start + step * k, step) for k in range(abs(to - start))]


PAIRS = [
    (ride, other)
    for ride in all_rides(4, (0, 1, 4))
    for other in all_rides(4, (0, 1, 2, 3, 5))
]


class Pairs(unittest.TestCase):

    def test_all_small_pairs(self):
        met = passed = 0
        for ride, other in PAIRS:
            there, through = None, None
            if is_riser(ride) != is_riser(other):
                moments = moments_of(ride, other)
                self.assertLessEqual(len(moments), 1)
                if moments and moments[0][0] % 2 == 0:
                    there = (moments[0][0] // 2, moments[0][1] // 2)
                    met += 1
                elif moments:
                    through = (moments[0][0] // 2, moments[0][1] // 2)
                    passed += 1
            for one, two in ((ride, other), (other, ride)):
                self.assertTrue(same(meeting(one, two), there), (one, two))
                self.assertTrue(same(passing(one, two), through), (one, two))
        self.assertGreater(met, 100)
        self.assertGreater(passed, 100)

    def test_all_small_clashes(self):
        clashed = 0
        for ride, other in PAIRS:
            # They want one platform at a made exactly if they are at one level then and go one way.
            shared = [at for at in strokes_on(ride) if at in strokes_on(other)]
            expected = shared[0][:2] if shared else None
            clashed += expected is not None
            for one, two in ((ride, other), (other, ride)):
                self.assertTrue(same(clash(one, two), expected), (one, two))
        self.assertGreater(clashed, 100)

    def test_ends_only_touch(self):
        # At 2 the one gets off, or boards, or both, when the other is there.
        self.assertIsNone(meeting((4, 2, 0), (0, 4, 0)))
        self.assertIsNone(meeting((2, 0, 2), (0, 4, 0)))
        self.assertIsNone(meeting((4, 0, 0), (0, 2, 0)))
        self.assertIsNone(meeting((4, 0, 0), (2, 4, 2)))
        self.assertIsNone(meeting((4, 2, 0), (0, 2, 0)))
        self.assertIsNone(meeting((4, 2, 0), (2, 4, 2)))
        self.assertEqual(meeting((4, 1, 0), (0, 4, 0)), (2, 2))

    def test_passing_at_the_first_and_at_the_last_stroke(self):
        self.assertEqual(passing((1, 0, 3), (0, 1, 3)), (3, 0))
        self.assertEqual(passing((4, 0, 0), (3, 4, 0)), (0, 3))
        self.assertIsNone(passing((1, 0, 3), (0, 1, 4)))

    def test_equal_rides_clash_at_once(self):
        for ride in all_rides(4, (0, 3, 10 ** 12)):
            self.assertEqual(clash(ride, ride), (ride[2], ride[0]))
            self.assertIsNone(meeting(ride, ride))
            self.assertIsNone(passing(ride, ride))

    def test_far(self):
        far = 10 ** 12
        self.assertEqual(meeting((40, 0, far), (0, 40, far)), (far + 20, 20))
        self.assertEqual(passing((40, 0, far), (0, 40, far + 1)), (far + 20, 19))
        self.assertEqual(clash((40, 0, far), (30, 20, far + 10)), (far + 10, 30))
        self.assertIsNone(clash((40, 30, far), (30, 20, far + 10)))


class Books(unittest.TestCase):

    def test_whole_books(self):
        dice = dice_of("books")
        for _ in range(120):
            book = random_book(dice, 6, dice.randint(0, 9), 6)
            men = range(len(book))
            met, clashed, over = [], [], []
            for one, two in itertools.permutations(men, 2):
                ride, other = book[one], book[two]
                if one < two and clash(ride, other) is not None:
                    clashed.append((*clash(ride, other), one, two))
                if is_riser(ride) and not is_riser(other) and moments_of(ride, other):
                    over.append((one, two))
                    if moments_of(ride, other)[0][0] % 2 == 0:
                        met.append((*[twice // 2 for twice in moments_of(ride, other)[0]], one, two))
            self.assertTrue(same(meetings(book), sorted(met)))
            self.assertTrue(same(clashes(book), sorted(clashed)))
            self.assertTrue(same(web(book), tuple(sorted(over))))

    def test_empty_and_single(self):
        for book in ((), ((4, 0, 0),)):
            self.assertEqual((meetings(book), clashes(book), web(book)), ([], [], ()))

    def test_guarantee_only_the_difference_of_readies_counts(self):
        book = random_book(dice_of("later"), 8, 12, 9)
        self.assertEqual(web(book), web(later_book(book, 10 ** 6)))

    def test_guarantee_meetings_have_one_colour(self):
        dice = dice_of("colours")
        for _ in range(40):
            book = random_book(dice, 7, 8, 7)
            met = [row[2:] for row in meetings(book)]
            for riser, sinker in web(book):
                slot, number = [mark_of(book[man], book[man][2]) for man in (riser, sinker)]
                self.assertEqual((slot - number) % 2 == 0, (riser, sinker) in met)


class Gaps(unittest.TestCase):

    def test_against_all_readies(self):
        for ride, other in itertools.product(all_rides(5, (0,)), all_rides(5, (7,))):
            if not is_riser(ride) or is_riser(other):
                continue
            found = set()
            for ready, other_ready in itertools.product(range(14), (0, 13)):
                if moments_of((*ride[:2], ready), (*other[:2], other_ready)):
                    if meeting((*ride[:2], ready), (*other[:2], other_ready)) is not None:
                        found.add(ready - other_ready)
            self.assertTrue(same(meeting_gaps(ride, other), tuple(sorted(found))))

    def test_unfit(self):
        up, down = (4, 0, 0), (0, 4, 0)
        for ride, other in ((up, up), (down, down), (down, up)):
            with self.assertRaises(Unfit):
                meeting_gaps(ride, other)


class Streams(unittest.TestCase):

    def by_all_pairs(self, stream, other):
        readies = [stream[2] + k * stream[3] for k in range(stream[4])]
        others = [other[2] + k * other[3] for k in range(other[4])]
        return sum([
            meeting((*stream[:2], one), (*other[:2], two)) is not None for one in readies for two in others])

    def test_small(self):
        dice = dice_of("streams")
        some = 0
        for _ in range(1500):
            deep = dice.randint(2, 12)
            ends = [dice.sample(range(deep + 1), 2) for _ in range(2)]
            tails = [[dice.randint(0, 20), dice.randint(1, 7), dice.randint(1, 9)] for _ in range(2)]
            stream = (*sorted(ends[0], reverse=True), *tails[0])
            other = (*sorted(ends[1]), *tails[1])
            expected = self.by_all_pairs(stream, other)
            some += expected > 0
            self.assertEqual(stream_meetings(stream, other), expected, (stream, other))
        self.assertGreater(some, 300)

    def test_far(self):
        far = 10 ** 12
        self.assertEqual(stream_meetings((4, 0, 0, 1, far), (0, 4, 0, 1, far)), 3 * far - 4)
        self.assertEqual(stream_meetings((2, 0, far, 1, far), (0, 2, far, 1, far)), far)
        self.assertEqual(stream_meetings((2, 0, 0, 1, far), (0, 2, far - 1, 1, far)), 1)
        self.assertEqual(stream_meetings((2, 0, 0, 1, far), (0, 2, far, 1, far)), 0)
        # They meet if far + k * 10^6 is j * 999999: k is 999998, 999998 + 999999, .. below 999998 * 10^6.
        self.assertEqual(stream_meetings((2, 0, far, 10 ** 6, far), (0, 2, 0, 10 ** 6 - 1, far)), 999998)
        self.assertEqual(stream_meetings((40, 0, 7, 3, far), (0, 40, 7, 2, far)), self.counted(7, 3, 7, 2, far))

    def counted(self, first, step, other_first, other_step, many):
        """Meetings of (40, 0) and (0, 40): for each gap its solutions, each along one line of k."""
        total = 0
        for gap in range(-38, 39, 2):
            shift = gap - first + other_first
            solutions = [k for k in range(200) if (step * k - shift) % other_step == 0 and step * k >= shift]
            jump = solutions[1] - solutions[0]
            # the last k is either many - 1 or the one whose mate is the last of the others
            last = min(many - 1, (shift + other_step * (many - 1)) // step)
            total += (last - solutions[0]) // jump + 1
        return total

    def test_shifted_streams_meet_alike(self):
        far = 10 ** 12
        for shift in (0, 5, far):
            self.assertEqual(stream_meetings((4, 0, shift, 3, 4), (0, 4, shift, 2, 5)), 5)

    def test_single_rides(self):
        for ride, other in itertools.product(all_rides(3, (0, 2)), all_rides(3, (0, 1, 2))):
            if is_riser(ride) and not is_riser(other):
                expected = 0 if meeting(ride, other) is None else 1
                self.assertEqual(stream_meetings((*ride, 5, 1), (*other, 9, 1)), expected)

    def test_unfit(self):
        up, down = (4, 0, 0, 1, 1), (0, 4, 0, 1, 1)
        for stream, other in ((up, up), (down, down), (down, up)):
            with self.assertRaises(Unfit):
                stream_meetings(stream, other)


class Manners(unittest.TestCase):

    def test_manners(self):
        up, down, late = (4, 0, 0), (0, 4, 0), (0, 4, 1)
        for ride, other in itertools.product((up, down, late), repeat=2):
            for call in (meeting, passing, clash, meeting_gaps):
                check_manners(self, call, {"ride": ride, "other": other})
            streams = {"stream": (*ride, 2, 5), "other": (*other, 3, 6)}
            check_manners(self, stream_meetings, streams)
        for call in (meetings, clashes, web):
            check_manners(self, call, {"book": (up, down, late, up)})


if __name__ == "__main__":
    unittest.main()
