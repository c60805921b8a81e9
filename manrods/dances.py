"""Runs in which only getting off, crossing and boarding count: who is barred, who dances [7]."""

from manrods.basics import is_count, is_level, is_number, is_tuple
from manrods.rides import is_riser


def is_lane(shaft, thing):
    """Whether thing is a LANE."""
    if not is_tuple(thing, shaft[0]):
        return False
    return all([to is None or is_level(to, shaft[0]) for to in thing])


def _goes_down(stride, colour, made):
    """Whether the platform of the lane faces the upper level of stride, so that it goes down next."""
    return (stride + made - colour) % 2 == 0


def _get_off(row, tos, colour, made):
    """Take off the row who faces his level; the list of them."""
    off = []
    for stride, man in enumerate(list(row)):
        faced = stride + 1
        if _goes_down(stride, colour, made):
            faced = stride
        if man is not None and tos[man] == faced:
            row[stride] = None
            off.append(man)
    return off


def _cross(row, tos, wide, colour, made):
    """Let the men of the row cross at this rest; the list of the pairs (man, other) of those barred.

    At the level between two strides of one lane just their two platforms face one another, the
    upper one going up, if they face it at all: so each two strides are settled by themselves.
    """
    bars = []
    for stride in range(1, len(row)):
        if not _goes_down(stride, colour, made):
            continue
        above, below = row[stride - 1], row[stride]
        sinks = above is not None and tos[above] > stride
        rises = below is not None and tos[below] < stride
        if not sinks and not rises:
            continue
        if wide or above is None or below is None:
            row[stride - 1], row[stride] = below, above
            continue
        if sinks:
            bars.append((above, below))
        if rises:
            bars.append((below, above))
    return bars


def lane_behind(shaft, lane, colour, made):
    """The LANE behind getting off and crossing at this rest."""
    # Each man is named by the stride on which he is now.
    row = [None if to is None else stride for stride, to in enumerate(lane)]
    _get_off(row, lane, colour, made)
    _cross(row, lane, shaft[1], colour, made)
    return tuple([None if man is None else lane[man] for man in row])


def _rows_of(row):
    """The list of the pairs (uppermost stride, men downward) of the unbroken rows of men."""
    found, begun = [], []
    for stride, man in enumerate([*row, None]):
        if man is not None:
            begun.append(man)
        elif begun:
            found.append((stride - len(begun), tuple(begun)))
            begun = []
    return found


def lane_stays(shaft, lane):
    """Whether nobody of lane ever gets off or crosses in a narrow shaft if nobody boards."""
    for first, tos in _rows_of(lane):
        own_levels = [to - first - at in (0, 1) for at, to in enumerate(tos)]
        last = first + len(tos) - 1
        if any(own_levels) or tos[0] <= first or tos[-1] > last:
            return False
    return True


def lane_end(shaft, lane, colour, made):
    """The pair (last, LANE): from the rest of made last on nothing changes in a narrow shaft."""
    narrow = (shaft[0], False, shaft[2])
    row = tuple(lane)
    # A LANE that does not stay may yet pass one rest unchanged, but the last one played did change it.
    while not lane_stays(narrow, row):
        row = lane_behind(narrow, row, colour, made)
        made += 1
    return (made, row)


class DanceRun:
    """The run of a BOOK, of which rests in which nothing can change need not be played."""

    def __init__(self, shaft, book):
        self.wide = shaft[1]
        self.book = book
        self.tos = [ride[1] for ride in book]
        self.rows = [[None] * shaft[0], [None] * shaft[0]]
        self.ahead = list(range(len(book)))
        self.made = 0
        self.still = 0
        self.off_at = {}
        self.since = {}

    def play_rest(self):
        """Play the rest of made; the list of the pairs (man, other) of those barred."""
        told = [list(row) for row in self.rows]
        bars = []
        for colour, row in enumerate(list(self.rows)):
            for man in _get_off(row, self.tos, colour, self.made):
                self.off_at[man] = self.made
            bars.extend(_cross(row, self.tos, self.wide, colour, self.made))
        bars.extend(self.board_all())
        self.note_changes(told)
        return bars

    def board_all(self):
        """Let men board, one after another; the list of the pairs (man, other) of those barred."""
        bars, left = [], []
        for man in self.ahead:
            start, to, ready = self.book[man]
            if ready > self.made:
                left.append(man)
                continue
            stride, mark = start, self.made - start
            if is_riser(self.book[man]):
                stride, mark = start - 1, self.made + start
            row = self.rows[mark % 2]
            if row[stride] is None:
                row[stride] = man
            else:
                bars.append((man, row[stride]))
                left.append(man)
        self.ahead = left
        return bars

    def note_changes(self, told):
        """Note who is on another stride than told, and for how many rests nothing was new."""
        self.still += 1
        for row, old in zip(self.rows, told):
            for stride, man in enumerate(row):
                if man != old[stride]:
                    self.still = 0
                if man is not None and man != old[stride]:
                    self.since[man] = (self.made, stride)
        if any([self.book[man][2] == self.made for man in self.ahead]):
            self.still = 0

    def next_made(self):
        """The made of the next rest at which something can be new; None if there is none.

        What is wanted hangs on whether made is even; so what two rests leave as it is stays so
        until somebody else is ready.
        """
        if self.still < 2:
            return self.made + 1
        readies = [self.book[man][2] for man in self.ahead]
        return min([ready for ready in readies if ready > self.made], default=None)


def _played(shaft, book):
    """The run played to where nothing changes any more."""
    run = DanceRun(shaft, book)
    made = 0
    while made is not None:
        run.made = made
        run.play_rest()
        made = run.next_made()
    return run


def _fate(run, man):
    """What becomes of this man in a run that was played to its end."""
    if man in run.off_at:
        return ("home", run.off_at[man])
    if man in run.since:
        made, stride = run.since[man]
        return ("dance", made, stride)
    return ("waits",)


def fates(shaft, book):
    """The tuple of what becomes of each man."""
    run = _played(shaft, book)
    return tuple([_fate(run, man) for man in range(len(book))])


def dance_rows(shaft, book):
    """The list, ascending, of (colour, stride, men) of the unbroken rows of dancers."""
    run = _played(shaft, book)
    return [(colour, stride, men) for colour, row in enumerate(run.rows) for stride, men in _rows_of(row)]


def nobody_barred(shaft, book):
    """Whether nobody is barred in the run."""
    return first_bar(shaft, book) is None


def _bars_at(shaft, book, made):
    """The list of the pairs (man, other) of those barred at the rest of made."""
    run = DanceRun(shaft, book)
    while run.made < made:
        run.play_rest()
        following = run.next_made()
        if following is None or following > made:
            following = made
        run.made = following
    return run.play_rest()


def is_bar(shaft, book, thing):
    """Whether thing is a triple (man, other, made): man is barred by other at that rest."""
    if not is_tuple(thing, 3) or not all([is_number(part) for part in thing]):
        return False
    man, other, made = thing
    return is_count(made) and (man, other) in _bars_at(shaft, book, made)


def first_bar(shaft, book):
    """The least (man, other, made) of the least made at which somebody is barred; None if nobody is."""
    run = DanceRun(shaft, book)
    made = 0
    while made is not None:
        run.made = made
        bars = run.play_rest()
        if bars:
            man, other = min(bars)
            return (man, other, made)
        made = run.next_made()
    return None
