"""The water of a rest: strokes, springs, what spills; plain runs [12]."""

from manrods.basics import is_count, is_level, is_number, is_tuple
from manrods.errors import NoPlace
from manrods.shafts import rising_rod


def _is_cistern(thing, deep):
    """Whether thing is a CISTERN at a level from 1 to deep."""
    if not is_tuple(thing, 5) or not all([is_count(part) for part in thing]):
        return False
    level, _, _, measure, rod = thing
    return is_level(level, deep) and level > 0 and measure > 0 and rod in (0, 1)


def is_waters(deep, thing):
    """Whether thing is WATERS for deep."""
    if not isinstance(thing, tuple) or thing == () or not all([_is_cistern(part, deep) for part in thing]):
        return False
    return thing[0][0] == deep and all([one[0] > two[0] for one, two in zip(thing, thing[1:])])


def is_held(waters, thing):
    """Whether thing is HELD of waters."""
    if not is_tuple(thing, len(waters)) or not all([is_count(amount) for amount in thing]):
        return False
    return all([amount <= cistern[1] for cistern, amount in list(zip(waters, thing))[1:]])


def dry_held(waters):
    """HELD of waters that is dry."""
    return (0,) * len(waters)


def check_cistern(waters, number):
    """Raise NoPlace if there is no CISTERN of this number."""
    if not is_number(number) or not 0 <= number < len(waters):
        raise NoPlace(number)


def brings(waters, held, made, loose, leaks):
    """The tuple of what each lift brings at the stroke behind made."""
    rod, brought = rising_rod(made), []
    for number, cistern in enumerate(waters):
        amount = 0
        if cistern[4] == rod and number not in loose:
            amount = max(0, min(cistern[3], held[number]) - leaks[number])
        brought.append(amount)
    return tuple(brought)


def _lift_all(now, brought):
    """Take what the lifts bring out of each of now, into the next one."""
    coming = 0
    for number, amount in enumerate(brought):
        now[number] += coming - amount
        coming = amount


def _spill(waters, now):
    """Let what is above its room spill out of each of now but the sump, from the topmost one down.

    The list of how much spilt out of each.
    """
    spilt = [0] * len(now)
    for number in range(len(waters) - 1, 0, -1):
        over = max(0, now[number] - waters[number][1])
        now[number] -= over
        now[number - 1] += over
        spilt[number] = over
    return spilt


def water_told(waters, held, rest, made, moved, loose, leaks):
    """The triple of HELD behind the water of this rest, and of what each lift brought, each CISTERN spilt."""
    now, brought = list(held), dry_held(waters)
    if moved:
        brought = brings(waters, held, made, loose, leaks)
        _lift_all(now, brought)
    if rest % 2 == 1:
        now = [amount + cistern[2] for amount, cistern in zip(now, waters)]
    spilt = _spill(waters, now)
    return (tuple(now), brought, tuple(spilt))


def behind_rest(waters, held, rest, made, moved, loose, leaks):
    """The pair of HELD behind the water of this rest and of what came out at the adit."""
    now, brought, _ = water_told(waters, held, rest, made, moved, loose, leaks)
    return (now, brought[-1])


def plain_rest(waters, held, rest):
    """behind_rest of this rest of a plain run."""
    return behind_rest(waters, held, rest, rest, True, (), dry_held(waters))


def held_rows(waters, held, many):
    """The list of HELD behind 0, 1 .. many rests of the plain run from held."""
    rows = [tuple(held)]
    for rest in range(many):
        rows.append(plain_rest(waters, rows[-1], rest)[0])
    return rows


def adit_row(waters, held, many):
    """The tuple of what comes out at each of so many rests of the plain run from held."""
    row = []
    for rest in range(many):
        held, came_out = plain_rest(waters, held, rest)
        row.append(came_out)
    return tuple(row)


def behind_swing(waters, held):
    """The pair of HELD behind the first swing of the plain run from held and of what came out in it."""
    middle, first_out = plain_rest(waters, held, 0)
    behind, second_out = plain_rest(waters, middle, 1)
    return (behind, first_out + second_out)


def drowned_top(deep, per, held):
    """The least level that is drowned; deep + 1 if none is."""
    return max(1, deep + 1 - held[0] // per)


def drowned_levels(deep, per, held):
    """The set of the levels that are drowned."""
    return tuple(range(drowned_top(deep, per, held), deep + 1))


def all_brought(cisterns, rest):
    """The rest at which the last of these lifts brings what is in the first CISTERN ahead of rest.

    Each takes all of it at its first rise.
    """
    for cistern in cisterns:
        if rising_rod(rest) != cistern[4]:
            rest += 1
        rest += 1
    return rest - 1


def way_out(waters, number):
    """The rest at which what springs in this CISTERN at rest 1 comes out if each lift brings all of it."""
    check_cistern(waters, number)
    return all_brought(waters[number:], 2)
