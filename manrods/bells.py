"""The last bell: who can take which slot, and who is saved [18]."""

from manrods.basics import is_ascending, is_count, is_number, is_tuple
from manrods.errors import CanNot


def is_lasts(thing, deep):
    """Whether thing are LASTS for deep."""
    if not is_tuple(thing, deep):
        return False
    return all([last is None or is_number(last) and last >= -1 for last in thing])


def _is_bar(thing, deep):
    """Whether thing is a triple (stride, colour, since)."""
    if not is_tuple(thing, 3) or not all([is_count(part) for part in thing]):
        return False
    return thing[0] < deep and thing[1] in (0, 1)


def are_bars(thing, deep):
    """Whether thing are BARS for deep."""
    return isinstance(thing, tuple) and all([_is_bar(part, deep) for part in thing]) and is_ascending(thing)


def _is_man(thing, deep):
    """Whether thing is a pair (level, ready)."""
    return is_tuple(thing, 2) and all([is_count(part) for part in thing]) and 1 <= thing[0] <= deep


def is_muster(thing, deep):
    """Whether thing is a MUSTER for deep."""
    return isinstance(thing, tuple) and all([_is_man(part, deep) for part in thing])


def _limit(lasts, bars, level, end, colour):
    """The greatest slot of this colour that leads from level to end, if it is at least level; None without."""
    limits = [lasts[place - 1] + place for place in range(end + 1, level + 1) if lasts[place - 1] is not None]
    closed = [since + stride for stride, own, since in bars if own == colour and end <= stride < level]
    return min(limits + closed, default=None)


def leads(lasts, bars, level, end, slot):
    """Whether slot leads from level to end."""
    limit = _limit(lasts, bars, level, end, slot % 2)
    return slot >= level and (limit is None or slot <= limit)


def spans_of(lasts, bars, level, end, first):
    """The list of the spans (least, limit) of the slots from first on, at least level, that lead from level to end.

    Those of one colour, each second one, make a span; it is empty if least is above limit, without end if
    limit is None.
    """
    least = max(first, level)
    return [(own, _limit(lasts, bars, level, end, own % 2)) for own in (least, least + 1)]


def next_in(spans, slot):
    """The least slot in spans from slot on; None without."""
    found = []
    for least, limit in spans:
        own = least
        if slot > least:
            own = slot + (slot - least) % 2
        if limit is None or own <= limit:
            found.append(own)
    return min(found, default=None)


def _is_in(spans, slot):
    """Whether slot is in one of spans."""
    return next_in(spans, slot) == slot


def slots_left(lasts, bars, level, first):
    """How many slots from first on lead from level to 0; None if they have no end."""
    return _how_many([spans_of(lasts, bars, level, 0, first)])


def _union_size(spans):
    """How many slots there are in spans of one colour, none of which is without end."""
    total, done = 0, -2
    for least, limit in sorted(spans):
        begin = max(least, done + 2)
        if begin <= limit:
            more = (limit - begin) // 2 + 1
            total += more
            done = begin + 2 * (more - 1)
    return total


def _how_many(rows):
    """How many slots there are in all the spans of rows together; None if they have no end."""
    colours = [[], []]
    for spans in rows:
        for least, limit in spans:
            if limit is None:
                return None
            colours[least % 2].append((least, limit))
    return _union_size(colours[0]) + _union_size(colours[1])


def _spans_by_man(lasts, bars, muster):
    """The list, for each man, of the spans of the slots that he can take."""
    return [spans_of(lasts, bars, level, 0, ready + level) for level, ready in muster]


def rescue(lasts, bars, muster):
    """The tuple, for each man, of his slot by the deepest first, or None."""
    rows = _spans_by_man(lasts, bars, muster)
    taken, slot = [None] * len(rows), 0
    while True:
        nexts = [(next_in(rows[man], slot), man) for man, own in enumerate(taken) if own is None]
        nexts = [(own, man) for own, man in nexts if own is not None]
        if not nexts:
            return tuple(taken)
        slot = min(nexts)[0]
        _, man = min([(-muster[man][0], man) for own, man in nexts if own == slot])
        taken[man] = slot
        slot += 1


def most_saved(lasts, bars, muster):
    """How many men have a slot by the deepest first."""
    return len(muster) - rescue(lasts, bars, muster).count(None)


def all_saved(lasts, bars, muster):
    """Whether there is a SAVING."""
    return None not in rescue(lasts, bars, muster)


def saving(lasts, bars, muster):
    """The SAVING by the deepest first."""
    slots = rescue(lasts, bars, muster)
    if None in slots:
        raise CanNot()
    return slots


def lot(lasts, bars, muster):
    """A LOT."""
    slots = rescue(lasts, bars, muster)
    if None not in slots:
        raise CanNot()
    # As no way serves more men, all slots that he can take who has none are taken, and all that those
    # can take who have them, and so on: all of these together can take one slot less than they are.
    rows = _spans_by_man(lasts, bars, muster)
    first = slots.index(None)
    found, new = {first: True}, [first]
    while new:
        man = new.pop()
        for mate, slot in enumerate(slots):
            if slot is not None and mate not in found and _is_in(rows[man], slot):
                found[mate] = True
                new.append(mate)
    return tuple(sorted(found))


def is_saving(lasts, bars, muster, thing):
    """Whether thing is a SAVING."""
    if not is_tuple(thing, len(muster)) or not all([is_count(slot) for slot in thing]):
        return False
    rows = _spans_by_man(lasts, bars, muster)
    return len(set(thing)) == len(thing) and all([_is_in(spans, slot) for spans, slot in zip(rows, thing)])


def is_lot(lasts, bars, muster, thing):
    """Whether thing is a LOT."""
    if not isinstance(thing, tuple) or thing == () or not all([is_count(man) for man in thing]):
        return False
    if not is_ascending(thing) or thing[-1] >= len(muster):
        return False
    rows = _spans_by_man(lasts, bars, muster)
    slots = _how_many([rows[man] for man in thing])
    return slots is not None and slots < len(thing)


def depth_counts(lasts, bars, levels, ready):
    """The list, ascending, of (level, men, slots): the men at it or deeper, the slots that lead from it to 0."""
    rows = []
    for level in sorted(set(levels)):
        men = len([own for own in levels if own >= level])
        rows.append((level, men, slots_left(lasts, bars, level, ready + level)))
    return rows


def _last_ready(lasts, bars, level, men):
    """The greatest ready from which on so many slots lead from level to 0; None if there is no end of them."""
    if slots_left(lasts, bars, level, level) is None:
        return None
    if slots_left(lasts, bars, level, level) < men:
        raise CanNot()
    low, high = 0, max([limit for _, limit in spans_of(lasts, bars, level, 0, level)]) + 1
    while high - low > 1:
        middle = (low + high) // 2
        if slots_left(lasts, bars, level, middle + level) < men:
            high = middle
        else:
            low = middle
    return low


def last_bell(lasts, bars, levels):
    """The greatest ready at which all are saved; None if at each."""
    readies = [_last_ready(lasts, bars, level, men) for level, men, _ in depth_counts(lasts, bars, levels, 0)]
    return min([ready for ready in readies if ready is not None], default=None)
