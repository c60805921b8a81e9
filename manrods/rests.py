"""The men of a rest, step by step [9]."""

from manrods.basics import is_count, is_level, is_number, is_tuple, tupled
from manrods.errors import NoPlace
from manrods.shafts import faced_level, is_platform, level_behind, platform_facing, riser_platform, sinker_platform

GRASS = ("grass",)
LOST = ("lost",)


def _is_place(thing, shaft, made):
    """Whether thing is a PLACE, and that of a rider faces a level at which his rod has a PLATFORM."""
    if not isinstance(thing, tuple):
        return False
    if thing in (GRASS, LOST):
        return True
    if is_tuple(thing, 2) and thing[0] == "aside":
        return is_level(thing[1], shaft[0]) and thing[1] > 0
    if not is_tuple(thing, 3) or thing[0] != "rod":
        return False
    _, rod, level = thing
    if not is_number(level) or not is_number(rod) or rod not in (0, 1):
        return False
    return is_platform(platform_facing(rod, level, made), shaft)


def _is_aim(thing, shaft):
    """Whether thing is an AIM."""
    if thing is None:
        return True
    return is_tuple(thing, 2) and is_level(thing[0], shaft[0]) and is_count(thing[1])


def _agree(place, aim):
    """Whether somebody at this PLACE may have this AIM."""
    if is_rider(place):
        return aim is not None
    return place != LOST or aim is None


def _has_room(shaft, place, many):
    """Whether so many can have this PLACE."""
    if is_rider(place):
        return many == 1
    return place[0] != "aside" or many <= shaft[2][place[1]]


def is_crowd(thing, shaft, made):
    """Whether thing is a CROWD of shaft at made."""
    if not is_tuple(thing, 2) or not isinstance(thing[0], tuple):
        return False
    men, aims = thing
    if not is_tuple(aims, len(men)) or not all([_is_place(place, shaft, made) for place in men]):
        return False
    if not all([_is_aim(aim, shaft) for aim in aims]):
        return False
    if not all([_agree(place, aim) for place, aim in zip(men, aims)]):
        return False
    counts = {}
    for place in men:
        counts[place] = counts.get(place, 0) + 1
    return all([_has_room(shaft, place, many) for place, many in counts.items()])


def first_crowd(book):
    """The CROWD in which each man stands where his RIDE begins."""
    men = [beside(ride[0]) for ride in book]
    return (tuple(men), tuple([(ride[1], ride[2]) for ride in book]))


def beside(level):
    """The PLACE of who stands on no rod at level."""
    if level == 0:
        return GRASS
    return ("aside", level)


def is_rider(place):
    """Whether who has this PLACE stands on a rod."""
    return place[0] == "rod"


def level_of(place):
    """The level of a PLACE; None for who is lost."""
    if place == LOST:
        return None
    if place == GRASS:
        return 0
    return place[-1]


def _aside_at(men, level):
    """How many stand aside at level."""
    return list(men).count(("aside", level))


def _under(place, made):
    """The PLATFORM on which who has this PLACE stands; None if he does not ride."""
    if not is_rider(place):
        return None
    return platform_facing(place[1], place[2], made)


def _want(shaft, made, place, aim):
    """The PLATFORM that a man wants; None if none."""
    level = level_of(place)
    if aim is None or level is None or aim[0] == level:
        return None
    if not is_rider(place) and aim[1] > made:
        return None
    if aim[0] < level:
        return riser_platform(shaft, level, made)
    return sinker_platform(shaft, level, made)


def wanted(shaft, made, crowd, man):
    """The PLATFORM that man wants as crowd stands; None if none."""
    men, aims = tupled(crowd)
    if not 0 <= man < len(men):
        raise NoPlace(man)
    return _want(shaft, made, men[man], aims[man])


def _all_wanted(shaft, made, men, aims):
    """The list of what each man wants."""
    return [_want(shaft, made, place, aim) for place, aim in zip(men, aims)]


def _riders_on(men, made):
    """The dict of the men who ride, by their PLATFORMS."""
    return {_under(place, made): man for man, place in enumerate(men) if is_rider(place)}


def _drop(made, men, aims, broken):
    """Step 1: who stands on a PLATFORM of broken is lost."""
    for man, place in enumerate(list(men)):
        if is_rider(place) and _under(place, made) in broken:
            men[man] = LOST
            aims[man] = None


def _step_off(shaft, men, aims):
    """Step 2: who is at the level of his AIM has none, and steps off if there is room."""
    for man, place in enumerate(list(men)):
        level = level_of(place)
        if aims[man] is None or aims[man][0] != level:
            continue
        if is_rider(place):
            if level > 0 and _aside_at(men, level) >= shaft[2][level]:
                continue
            men[man] = beside(level)
        aims[man] = None


def _cross(shaft, made, fresh, men, aims, broken):
    """Step 3: who rides and wants another PLATFORM crosses or changes over, all at once."""
    wants = _all_wanted(shaft, made, men, aims)
    standing = _riders_on(men, made)
    for platform, man in standing.items():
        want = wants[man]
        if want is None or want == platform:
            continue
        if want not in standing:
            if want not in broken:
                _put(men, man, want, made)
            continue
        other = standing[want]
        if shaft[1] and (fresh or wants[other] != want):
            _put(men, man, want, made)
            _put(men, other, platform, made)


def _put(men, man, platform, made):
    """Let man stand on platform."""
    men[man] = ("rod", platform[0], faced_level(platform, made))


def _board(shaft, made, men, aims, broken):
    """Step 4: who does not ride boards what he wants, if it is free by now, man by man."""
    standing = _riders_on(men, made)
    wants = _all_wanted(shaft, made, men, aims)
    for man, place in enumerate(list(men)):
        want = wants[man]
        if is_rider(place) or want is None or want in standing or want in broken:
            continue
        standing[want] = man
        _put(men, man, want, made)


def _behind_two(shaft, made, crowd, broken):
    """The lists of men and of aims behind steps 1 and 2."""
    men, aims = list(crowd[0]), list(crowd[1])
    _drop(made, men, aims, broken)
    _step_off(shaft, men, aims)
    return men, aims


def ready_crowd(shaft, made, fresh, crowd, broken):
    """The CROWD behind steps 1 to 4."""
    closed = tupled(broken)
    men, aims = _behind_two(shaft, made, tupled(crowd), closed)
    _cross(shaft, made, fresh, men, aims, closed)
    _board(shaft, made, men, aims, closed)
    return (tuple(men), tuple(aims))


def _carry(place, made):
    """The PLACE behind a stroke."""
    if not is_rider(place):
        return place
    return ("rod", place[1], level_behind(place[1], place[2], made))


def carried(made, crowd):
    """The CROWD behind step 5, the stroke being made."""
    men, aims = tupled(crowd)
    return (tuple([_carry(place, made) for place in men]), aims)


def soaked(crowd, top):
    """The CROWD behind step 6: the levels from top on are drowned."""
    men, aims = tupled(crowd)
    levels = [level_of(place) for place in men]
    wet = [level is not None and level >= top for level in levels]
    left = [LOST if drowned else place for place, drowned in zip(men, wet)]
    return (tuple(left), tuple([None if drowned else aim for aim, drowned in zip(aims, wet)]))


def crowd_behind(shaft, made, fresh, crowd, broken, moved, top):
    """The CROWD behind all six steps."""
    behind = ready_crowd(shaft, made, fresh, crowd, broken)
    if moved:
        behind = carried(made, behind)
    return soaked(behind, top)


def barred(shaft, made, fresh, crowd, broken):
    """The set of the men who want a PLATFORM behind step 2 and do not stand on it behind step 4."""
    men, aims = _behind_two(shaft, made, tupled(crowd), tupled(broken))
    wants = _all_wanted(shaft, made, men, aims)
    behind = ready_crowd(shaft, made, fresh, crowd, broken)[0]
    stand = [_under(place, made) for place in behind]
    return tuple([man for man, want in enumerate(wants) if want is not None and stand[man] != want])
