"""Steam, and the strokes that are missed for want of it [16]."""

from manrods.basics import is_number, is_tuple
from manrods.errors import Unfit
from manrods.waters import behind_rest, brings, dry_held, held_rows


def heights_of(waters):
    """The list of the levels that each lift goes up."""
    levels = [cistern[0] for cistern in waters]
    return [low - high for low, high in zip(levels, levels[1:] + [0])]


def stroke_weight(mine, held, made, loose, leaks):
    """The weight of the stroke behind made."""
    brought = brings(mine[1], held, made, loose, leaks)
    return sum([amount * height for amount, height in zip(brought, heights_of(mine[1]))])


def is_stroke_made(mine, held, made, steam, loose, leaks):
    """Whether there is steam enough for the stroke behind made."""
    return mine[3] is None or steam >= stroke_weight(mine, held, made, loose, leaks)


def greatest_weights(mine):
    """The pair of the greatest weights there can be when rod 0, rod 1 rises."""
    weights = [0, 0]
    for number, height in enumerate(heights_of(mine[1])):
        _, room, _, measure, rod = mine[1][number]
        if number > 0:
            measure = min(measure, room)
        weights[rod] += measure * height
    return tuple(weights)


def steam_behind(mine, rest, steam, spent):
    """The steam behind this rest if its stroke took so much."""
    if mine[3] is None:
        return 0
    room, _, stokes = mine[3]
    return min(room, steam - spent + stokes[rest % len(stokes)])


def _lone_behind(mine, rest, row):
    """The triple (made, HELD, steam) behind this rest of the lone run, row being that ahead of it."""
    made, held, steam = row
    none = dry_held(mine[1])
    moved = is_stroke_made(mine, held, made, steam, (), none)
    spent = 0
    if moved:
        spent = stroke_weight(mine, held, made, (), none)
    behind = behind_rest(mine[1], held, rest, made, moved, (), none)[0]
    return (made + int(moved), behind, steam_behind(mine, rest, steam, spent))


def lone_rows(mine, many):
    """The list of the triples (made, HELD, steam) behind 0, 1 .. many rests of the lone run."""
    begin = 0
    if mine[3] is not None:
        begin = mine[3][1]
    rows = [(0, dry_held(mine[1]), begin)]
    for rest in range(many):
        rows.append(_lone_behind(mine, rest, rows[-1]))
    return rows


def missed_strokes(mine, many):
    """The set of those of the first many rests of the lone run whose stroke is missed."""
    mades = [row[0] for row in lone_rows(mine, many)]
    return tuple([rest for rest in range(many) if mades[rest] == mades[rest + 1]])


def weights_ahead(mine, many):
    """The tuple of the weights of the first many strokes if all are made."""
    none = dry_held(mine[1])
    rows = held_rows(mine[1], none, many)
    return tuple([stroke_weight(mine, rows[rest], rest, (), none) for rest in range(many)])


class Balance:
    """What the strokes of many rests weigh, all being made, less what is stoked.

    ahead is a list with this, rest by rest, of all rests before; behind of the stroke of this rest, too.
    There is a LACK from first to last if behind of last less ahead of first is more than the limit of first.
    """

    def __init__(self, mine, many, more):
        self.room, self.begin, stokes = mine[3]
        self.ahead, self.behind = [], []
        total = 0
        for rest, weight in enumerate(weights_ahead(mine, many)):
            self.ahead.append(total)
            self.behind.append(total + weight)
            total += weight - stokes[rest % len(stokes)] - more

    def limit(self, first):
        """The steam that there can be at most ahead of the rest first."""
        if first == 0:
            return self.begin
        return self.room

    def worst(self):
        """For each first the most by which strokes from there on, to whatever last, weigh more than is stoked."""
        row, most = [], None
        for rest in reversed(range(len(self.ahead))):
            if most is None or self.behind[rest] > most:
                most = self.behind[rest]
            row.append(most - self.ahead[rest])
        return row[::-1]

    def lacking(self):
        """The list of the rests that are first in some LACK."""
        return [first for first, need in enumerate(self.worst()) if need > self.limit(first)]


def first_lack(mine, many):
    """The least LACK of many rests; None without."""
    if mine[3] is None:
        return None
    balance = Balance(mine, many, 0)
    for first in balance.lacking():
        for last in range(first, many):
            if balance.behind[last] - balance.ahead[first] > balance.limit(first):
                return (first, last)
    return None


def is_lack(mine, many, thing):
    """Whether thing is a LACK of many rests."""
    if mine[3] is None or not is_tuple(thing, 2) or not all([is_number(rest) for rest in thing]):
        return False
    first, last = thing
    if not 0 <= first <= last < many:
        return False
    balance = Balance(mine, many, 0)
    return balance.behind[last] - balance.ahead[first] > balance.limit(first)


def least_room(mine, many):
    """The least room, not below begin, such that no stroke of many rests is missed; None without."""
    if mine[3] is None:
        raise Unfit()
    balance = Balance(mine, many, 0)
    needs = balance.worst()
    if 0 in balance.lacking():
        return None
    return max([balance.begin, *needs])


def least_more(mine, many):
    """The least number by which each stoke is to be more such that no stroke of many rests is missed; None without."""
    if mine[3] is None:
        raise Unfit()
    # If each stoke is as much as the greatest weight, only a stroke that is too heavy by itself is missed.
    low, high = 0, max(weights_ahead(mine, many), default=0)
    if Balance(mine, many, high).lacking():
        return None
    while low < high:
        middle = (low + high) // 2
        if Balance(mine, many, middle).lacking():
            low = middle + 1
        else:
            high = middle
    return low
