"""What stays in the mine and what comes out in the long run: excesses, cuts, flows [13]."""

from manrods.basics import is_count, is_number, is_tuple
from manrods.errors import CanNot, TooMuch
from manrods.waters import behind_swing, dry_held

MOST_SWINGS = 1000


def sprung_sums(waters):
    """The list with, for each CISTERN, its spring and those of all ahead of it, added."""
    sums, total = [], 0
    for cistern in waters:
        total += cistern[2]
        sums.append(total)
    return sums


def excesses(waters):
    """The tuple of the excesses of all CISTERNS."""
    return tuple([sprung - cistern[3] for sprung, cistern in zip(sprung_sums(waters), waters)])


def is_roomy(waters):
    """Whether waters are roomy."""
    pairs = list(zip(sprung_sums(waters), waters))
    return all([sprung <= cistern[1] for sprung, cistern in pairs[1:]])


def is_bounded(waters):
    """Whether there is no CUT."""
    return growth(waters) == 0


def growth(waters):
    """The greatest excess, 0 if none is above 0."""
    return max(0, max(excesses(waters)))


def greatest_cut(waters):
    """The least number of a CISTERN with the greatest excess."""
    if is_bounded(waters):
        raise CanNot()
    return excesses(waters).index(growth(waters))


def is_cut(waters, thing):
    """Whether thing is a CUT."""
    return is_number(thing) and 0 <= thing < len(waters) and excesses(waters)[thing] > 0


def flow_through(waters):
    """A FLOW that brings out all springs."""
    if not is_bounded(waters):
        raise CanNot()
    return tuple(sprung_sums(waters))


def is_flow(waters, thing):
    """Whether thing is a FLOW that brings out all springs."""
    if not is_tuple(thing, len(waters)) or not all([is_count(amount) for amount in thing]):
        return False
    # No lift can bring more than has sprung so far, so who brings out all brings just that everywhere.
    return is_bounded(waters) and thing == flow_through(waters)


def outflow(waters):
    """The most that a FLOW brings out."""
    amount = 0
    for cistern in waters:
        amount = min(cistern[3], cistern[2] + amount)
    return amount


def _is_sure(waters, ahead, behind):
    """Whether the swing from ahead to behind is sure."""
    return ahead[1:] == behind[1:] and (ahead[0] == behind[0] or ahead[0] >= waters[0][3])


def _swing_rows(waters):
    """The list of HELD behind 0, 1 .. swings from dry, up to the first sure one, and whether there is one.

    If none of the first swings is sure, no further ones are played.
    """
    rows = [dry_held(waters)]
    for _ in range(MOST_SWINGS):
        rows.append(behind_swing(waters, rows[-1])[0])
        if _is_sure(waters, rows[-2], rows[-1]):
            return rows, True
    return rows, False


def _sure_rows(waters):
    """The list of HELD behind 0, 1 .. swings from dry, up to the first sure one."""
    rows, sure = _swing_rows(waters)
    if not sure:
        raise TooMuch()
    return rows


def _last_more(rows):
    """How much more the sump holds behind the last swing of rows than ahead of it."""
    return rows[-1][0] - rows[-2][0]


def filled(waters):
    """The pair (many, more): from many swings on just the sump holds more, by more each swing."""
    rows = _sure_rows(waters)
    many, more = len(rows) - 1, _last_more(rows)
    while many > 0 and rows[many - 1] == (rows[many][0] - more, *rows[many][1:]):
        many -= 1
    return (many, more)


def held_far(waters, swings):
    """HELD behind so many swings."""
    rows, sure = _swing_rows(waters)
    if swings < len(rows):
        return rows[swings]
    if not sure:
        raise TooMuch()
    further = (swings - len(rows) + 1) * _last_more(rows)
    return (rows[-1][0] + further, *rows[-1][1:])


def out_far(waters, swings):
    """All that came out in so many swings."""
    return swings * sprung_sums(waters)[-1] - sum(held_far(waters, swings))


def swings_to(waters, least):
    """The least number of swings behind which the sump holds least or more; None if it never does."""
    rows, sure = _swing_rows(waters)
    for swings, held in enumerate(rows):
        if held[0] >= least:
            return swings
    if not sure:
        raise TooMuch()
    more = _last_more(rows)
    if more == 0:
        return None
    return len(rows) - 1 - (rows[-1][0] - least) // more
