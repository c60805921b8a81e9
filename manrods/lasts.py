"""The last made at which a level is passed, the last slot that brings up from it [17]."""

from manrods.basics import is_number, is_tuple
from manrods.bells import leads
from manrods.engines import lone_rows
from manrods.errors import CanNot, Unfit
from manrods.waters import drowned_top


def _wet_rows(mine, many):
    """The list, rest by rest to many, of the pairs of made and of the least level that is wet."""
    return [(made, drowned_top(mine[0][0], mine[2], held)) for made, held, _ in lone_rows(mine, many)]


def made_row(mine, many):
    """The tuple of the mades at the beginning of the rests from 0 to many."""
    return tuple([row[0] for row in lone_rows(mine, many)])


def _first_wet(rows, level):
    """The first rest of rows at which level is wet; None without."""
    for rest, (_, top) in enumerate(rows):
        if top <= level:
            return rest
    return None


def wet_from(mine, level, many):
    """The first of the rests from 0 to many at which level is wet; None without."""
    return _first_wet(_wet_rows(mine, many), level)


def _last_made(rows, level):
    """The last made at which level is passed; None if it is wet at no rest of rows."""
    rest = _first_wet(rows, level)
    if rest is None:
        return None
    # The made of this rest is not passed, as its last rest is this one or a later one.
    return rows[rest][0] - 1


def lasts_of(mine, many):
    """LASTS: for each level the last made at which it is passed."""
    rows = _wet_rows(mine, many)
    return tuple([_last_made(rows, level) for level in range(1, mine[0][0] + 1)])


def last_slots(mine, many):
    """The tuple of the last slots of the levels from 1 on."""
    slots, least = [], None
    for at, made in enumerate(lasts_of(mine, many)):
        if made is not None and (least is None or made + at + 1 < least):
            least = made + at + 1
        slots.append(least)
    return tuple(slots)


def _first_flood(rows, level, slot):
    """The FLOOD with the least rest, of these with the greatest place; None without."""
    for rest, (made, top) in enumerate(rows):
        place = min(level, slot - made)
        if place >= top:
            return (place, rest)
    return None


def comes_up(mine, level, slot, many):
    """Whether who boards at level with slot comes up."""
    if slot < level:
        raise Unfit()
    rows = _wet_rows(mine, many)
    return rows[many][0] >= slot and _first_flood(rows, level, slot) is None


def flood_of(mine, level, slot, many):
    """The FLOOD of slot at level with the least rest, of these with the greatest place."""
    if slot < level:
        raise Unfit()
    flood = _first_flood(_wet_rows(mine, many), level, slot)
    if flood is None:
        raise CanNot()
    return flood


def is_flood(mine, level, slot, many, thing):
    """Whether thing is a FLOOD of slot at level."""
    if slot < level:
        raise Unfit()
    if not is_tuple(thing, 2) or not all([is_number(part) for part in thing]):
        return False
    place, rest = thing
    if not 1 <= place <= level or not 0 <= rest <= many:
        return False
    made, top = _wet_rows(mine, many)[rest]
    return place >= top and made <= slot - place


def slots_of(mine, bars, level, ready, many):
    """The set of the slots with which he comes up from level, ready at ready, and is not barred."""
    lasts, last_slot = lasts_of(mine, many), made_row(mine, many)[many]
    # That a slot is lost on the way is just that it is above what some level up to his allows.
    return tuple([slot for slot in range(ready + level, last_slot + 1) if leads(lasts, bars, level, 0, slot)])


def _tops_by_made(rows):
    """The list, made by made, of the least level that is wet at some rest of this made."""
    tops = []
    for made, top in rows:
        if made == len(tops):
            tops.append(top)
        tops[made] = min(tops[made], top)
    return tops


def _stays_dry(tops, board, level, end):
    """Whether who boards at the grass at board, goes to level and is up again at end is never at a wet level."""
    return all([min(level, made - board, end - made) < tops[made] for made in range(board, end + 1)])


def last_trip(mine, level, stay, many):
    """The greatest made at which somebody can board to level, stay there, and be up again by rest many; -1 without."""
    tops = _tops_by_made(_wet_rows(mine, many))
    strokes = 2 * level + stay
    for end in reversed(range(strokes, len(tops))):
        if _stays_dry(tops, end - strokes, level, end):
            return end - strokes
    return -1
