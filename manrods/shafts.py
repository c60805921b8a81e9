"""Levels, platforms and strides of a shaft [4]."""

from manrods.basics import is_count, is_number, is_tuple
from manrods.errors import NoPlace


def is_shaft(thing):
    """Whether thing is a SHAFT."""
    if not is_tuple(thing, 3):
        return False
    deep, wide, rooms = thing
    if not is_number(deep) or deep < 2 or not isinstance(wide, bool):
        return False
    return is_tuple(rooms, deep + 1) and all([is_count(room) for room in rooms])


def is_platform(thing, shaft):
    """Whether thing is a PLATFORM of shaft."""
    if not is_tuple(thing, 2):
        return False
    rod, level = thing
    if not is_number(rod) or not is_number(level):
        return False
    return rod in (0, 1) and rod <= level < shaft[0] + rod


def platforms(shaft):
    """The set of the PLATFORMS of shaft."""
    return tuple([(rod, level) for rod in (0, 1) for level in range(rod, shaft[0] + rod)])


def rising_rod(made):
    """The rod that rises at the next stroke."""
    return 1 - made % 2


def falling_rod(made):
    """The rod that falls at the next stroke."""
    return made % 2


def shift_of(rod, made):
    """How much deeper than while made is even the platforms of this rod are."""
    if made % 2 == 0:
        return 0
    return 1 - 2 * rod


def faced_level(platform, made):
    """The level that platform faces."""
    rod, level = platform
    return level + shift_of(rod, made)


def platform_facing(rod, level, made):
    """The pair of rod and level that would face this level, whether a shaft has it or not."""
    return (rod, level - shift_of(rod, made))


def facing_platform(shaft, rod, level, made):
    """The PLATFORM of this rod that faces level."""
    platform = platform_facing(rod, level, made)
    if not is_platform(platform, shaft):
        raise NoPlace(level)
    return platform


def level_behind(rod, level, made):
    """The level that somebody faces behind the next stroke who faces level now."""
    if rod == falling_rod(made):
        return level + 1
    return level - 1


def riser_platform(shaft, level, made):
    """The PLATFORM that faces level on the rod that rises at the next stroke."""
    return facing_platform(shaft, rising_rod(made), level, made)


def sinker_platform(shaft, level, made):
    """The PLATFORM that faces level on the rod that falls at the next stroke."""
    return facing_platform(shaft, falling_rod(made), level, made)


def stride_of(platform):
    """The stride of platform."""
    rod, level = platform
    return level - rod


def stride_platforms(shaft, stride):
    """The two PLATFORMS of stride, that of rod 0 first."""
    if not 0 <= stride < shaft[0]:
        raise NoPlace(stride)
    return ((0, stride), (1, stride + 1))


def goes_with(platform, made):
    """1 if platform goes down at the next stroke, -1 if it goes up."""
    if platform[0] == falling_rod(made):
        return 1
    return -1
