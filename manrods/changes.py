"""Changes of shift: men to come up, men to sink, the least end of it all, and stages [11]."""

from manrods.basics import is_level, is_number, is_tuple
from manrods.errors import CanNot, TooMuch, Unfit
from manrods.meetings import clashes
from manrods.rides import end_of, is_book, is_riser, level_at
from manrods.waits import hinder_gaps, is_free

MOST_TO_PLAN = 6


def _are_depths(thing, deep):
    """Whether thing is a tuple of levels from 1 to deep that never fall."""
    if not isinstance(thing, tuple) or not all([is_level(level, deep) and level > 0 for level in thing]):
        return False
    return all([one <= two for one, two in zip(thing, thing[1:])])


def is_change(thing, shaft):
    """Whether thing is a CHANGE for shaft."""
    return is_tuple(thing, 2) and all([_are_depths(part, shaft[0]) for part in thing])


def _ways(change):
    """The list of the pairs (from, to) of the RIDES of change."""
    ups, downs = change
    return [(level, 0) for level in ups] + [(0, level) for level in downs]


def is_plan(thing, shaft, change):
    """Whether thing is a PLAN of change."""
    if not is_book(thing, shaft) or [(start, to) for start, to, _ in thing] != _ways(change):
        return False
    return is_free(shaft, thing)


def book_end(book):
    """The made at which all of book are off."""
    return max([end_of(ride, ride[2]) for ride in book], default=0)


def _wide_plan(change):
    """A PLAN with the least end in a wide shaft."""
    ups, downs = change
    rides, slot = [], 0
    for level in ups:
        # Levels never fall, so a slot left free below is below this level, too.
        slot = max(slot + 1, level)
        rides.append((level, 0, slot - level))
    for place, level in enumerate(downs):
        rides.append((0, level, len(downs) - 1 - place))
    return tuple(rides)


def wide_end(change):
    """The least end of a PLAN of change in a wide shaft."""
    return book_end(_wide_plan(change))


def _mixed_room(level, last, first):
    """How many men board from made first to last in one class, some up, some down, one kind ahead of the other."""
    return max(0, (last - level - first) // 2 + 2)


def _class_rooms(level, last, first_up, first_down):
    """How many can board by made last in one class: up alone, down alone, both kinds together."""
    ups, downs = (last - first_up) // 2 + 1, (last - first_down) // 2 + 1
    return (ups, downs, _mixed_room(level, last, min(first_up, first_down)))


def _fit_with(left, right, up, down):
    """Whether so many fit if none sinks in the class left; right may have both kinds."""
    more = max(0, up - left[0])
    if more == 0 and down <= right[1]:
        return True
    return more + down <= right[2]


def _all_board(level, up, down, last):
    """Whether up men from level, and down men to it, can board by made last in a narrow shaft."""
    if level == 1:
        return max(up, down) <= last + 1
    # Those who can hinder one another make two classes: in class c sinkers board while made is of
    # colour c, risers while it is of the colour of c and level. Both kinds in both classes are never
    # needed: one class has at least as much room for one kind alone.
    one, two = [_class_rooms(level, last, (colour + level) % 2, colour) for colour in (0, 1)]
    if down == 0 and up <= one[0] + two[0] or up == 0 and down <= one[1] + two[1]:
        return True
    turned_one, turned_two = (one[1], one[0], one[2]), (two[1], two[0], two[2])
    if _fit_with(one, two, up, down) or _fit_with(two, one, up, down):
        return True
    return _fit_with(turned_one, turned_two, down, up) or _fit_with(turned_two, turned_one, down, up)


def level_end(level, up, down):
    """The least end in a narrow shaft of up men from level and down men to it."""
    if up + down == 0:
        return 0
    low, high = 0, 2 * (up + down) + 1
    while low < high:
        last = (low + high) // 2
        if _all_board(level, up, down, last):
            high = last
        else:
            low = last + 1
    return low + level


def _gap_table(shaft, ways):
    """For each man, for each other man, the dict of the gaps of the other's ready less his that hinder."""
    rides = [(start, to, 0) for start, to in ways]
    return [[{gap: True for gap in hinder_gaps(shaft, ride, other)} for other in rides] for ride in rides]


def _narrowed(table, ways, left, man, ready):
    """The readies that are left to the other men if man has this ready."""
    others = {}
    for mate in left:
        if mate == man:
            continue
        open_to = [own for own in left[mate] if own - ready not in table[man][mate]]
        if ways[mate] == ways[man]:
            # Of men with one way any order does as well, so only one is tried.
            open_to = [own for own in open_to if (own > ready) == (mate > man)]
        others[mate] = open_to
    return others


def _found_readies(table, ways, left):
    """The dict of readies, out of those left to each man, with which nobody hinders another; None without."""
    if not left:
        return {}
    man = min([(len(left[mate]), mate) for mate in left])[1]
    for ready in left[man]:
        found = _found_readies(table, ways, _narrowed(table, ways, left, man, ready))
        if found is not None:
            found[man] = ready
            return found
    return None


def least_plan(shaft, change):
    """A PLAN of change with the least end."""
    ways = _ways(change)
    if len(ways) > MOST_TO_PLAN:
        raise TooMuch()
    if shaft[1]:
        return _wide_plan(change)
    table, end = _gap_table(shaft, ways), wide_end(change)
    found = None
    while found is None:
        left = {man: list(range(end - max(way) + 1)) for man, way in enumerate(ways)}
        found = _found_readies(table, ways, left)
        end += 1
    return tuple([(start, to, found[man]) for man, (start, to) in enumerate(ways)])


def _is_order(order, many):
    """Whether order has all places below many, each once."""
    if not isinstance(order, (list, tuple)) or not all([is_number(place) for place in order]):
        return False
    return sorted(order) == list(range(many))


def _first_ready(shaft, ahead, way):
    """The least ready with which a man with this way hinders none of the RIDES ahead."""
    start, to = way
    taken = {other[2] + gap: True for other in ahead for gap in hinder_gaps(shaft, other, (start, to, 0))}
    ready = 0
    while ready in taken:
        ready += 1
    return ready


def in_turn(shaft, change, order):
    """The PLAN in which each, in this order, has the least ready that hinders none ahead of him."""
    ways = _ways(change)
    if not _is_order(order, len(ways)):
        raise Unfit()
    rides, ahead = list(ways), []
    for man in order:
        start, to = ways[man]
        rides[man] = (start, to, _first_ready(shaft, ahead, ways[man]))
        ahead.append(rides[man])
    return tuple(rides)


class StagedRun:
    """A run of a BOOK in a narrow shaft in which sinkers step aside at stages; risers go undisturbed."""

    def __init__(self, book, stages):
        self.book = book
        self.stages = stages
        self.off_at = {}
        self.risen = {}
        self.sinking = {}
        # For each sinker who stands aside, or has not boarded yet: his level and the made from which he boards.
        self.idle = {}
        self.used = {}
        self.made = 0
        for man, ride in enumerate(book):
            if is_riser(ride):
                self.note_riser(man, ride)
            else:
                self.idle[man] = (ride[0], ride[2])

    def note_riser(self, man, ride):
        """Note when and where others can meet this riser."""
        end = end_of(ride, ride[2])
        self.off_at[man] = end
        for made in range(ride[2] + 1, end):
            self.risen[(made, level_at(ride, ride[2], made))] = True

    def leave_rods(self):
        """Let sinkers get off, and step aside for risers; the dict of the levels of those who sink on."""
        taken = {}
        for man, level in list(self.sinking.items()):
            if level != self.book[man][1] and (self.made, level) not in self.risen:
                taken[level] = True
                continue
            del self.sinking[man]
            if level == self.book[man][1]:
                self.off_at[man] = self.made
            elif level in self.stages:
                self.idle[man] = (level, self.made + 1)
                self.used[level] = True
            else:
                raise CanNot()
        return taken

    def go(self):
        """Go through the rest of made and its stroke, to the next rest at which somebody does anything."""
        taken = self.leave_rods()
        for man in sorted(self.idle):
            level, since = self.idle[man]
            if since <= self.made and level not in taken:
                taken[level] = True
                del self.idle[man]
                self.sinking[man] = level
        self.made += 1
        for man in list(self.sinking):
            self.sinking[man] += 1
        if not self.sinking and self.idle:
            # Who could have boarded by now sinks: so all these are ready later.
            self.made = min([since for _, since in list(self.idle.values())])


def _staged(book, stages):
    """The run of book with stages, played to its end."""
    run = StagedRun(book, stages)
    while run.sinking or run.idle:
        run.go()
    return run


def staged_ends(shaft, book, stages):
    """The tuple of the mades at which men are off if sinkers step aside for risers at stages."""
    if clashes(book):
        raise Unfit()
    run = _staged(book, stages)
    return tuple([run.off_at[man] for man in range(len(book))])


def fewest_stages(shaft, book):
    """The set of the fewest stages, of as few the least, with which staged_ends raises nothing."""
    if clashes(book):
        raise Unfit()
    # With whatever stages the run goes alike up to the first meeting elsewhere: none that is used when
    # all levels are stages can be left out.
    run = _staged(book, tuple(range(1, shaft[0])))
    return tuple(sorted(run.used))
