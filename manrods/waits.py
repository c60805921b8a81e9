"""Waits with which nobody hinders anybody [8]."""

from manrods.basics import is_count, is_tuple
from manrods.errors import TooMuch
from manrods.meetings import clash, meeting, meeting_gaps
from manrods.rides import first_marks, is_riser, share_stride

MOST_MEN = 6


def is_waits(thing, book):
    """Whether thing are WAITS of book."""
    return is_tuple(thing, len(book)) and all([is_count(wait) for wait in thing])


def waited_book(book, waits):
    """The BOOK in which each is ready later by his wait."""
    return tuple([(ride[0], ride[1], ride[2] + wait) for ride, wait in zip(book, waits)])


def hinder(shaft, ride, other):
    """Whether they hinder one another."""
    if clash(ride, other) is not None:
        return True
    return not shaft[1] and meeting(ride, other) is not None


def is_free(shaft, book):
    """Whether no two RIDES of book hinder one another."""
    men = range(len(book))
    return not any([hinder(shaft, book[one], book[two]) for two in men for one in range(two)])


def hinder_gaps(shaft, ride, other):
    """The list of the differences of other's ready less ride's with which they hinder one another."""
    if is_riser(ride) == is_riser(other):
        if not share_stride(ride, other):
            return []
        if is_riser(ride):
            return [ride[0] - other[0]]
        return [other[0] - ride[0]]
    if shaft[1]:
        return []
    if is_riser(ride):
        return [-gap for gap in meeting_gaps(ride, other)]
    return list(meeting_gaps(other, ride))


def _company_of(shaft, book, man):
    """The company in which man is."""
    found, new = [man], [man]
    while new:
        one = new.pop()
        for two in range(len(book)):
            if two not in found and hinder_gaps(shaft, book[one], book[two]):
                found.append(two)
                new.append(two)
    return tuple(sorted(found))


def companies(shaft, book):
    """The list, ascending, of the companies of book."""
    found, placed = [], {}
    for man in range(len(book)):
        if man in placed:
            continue
        company = _company_of(shaft, book, man)
        found.append(company)
        for mate in company:
            placed[mate] = True
    return found


def free_ready(shaft, book, ride):
    """The least ready, not less than its own, with which ride hinders none of book."""
    start, to, ready = ride
    while any([hinder(shaft, (start, to, ready), other) for other in book]):
        ready += 1
    return ready


def _spread_sum(marks, step):
    """How much is added at the least so that any two of marks, rising by steps, are unlike."""
    total, least = 0, None
    for mark in sorted(marks):
        spread = mark
        if least is not None and least > mark:
            spread = least
        total += spread - mark
        least = spread + step
    return total


def _coloured_sum(marks, colour):
    """How much is added at the least so that all marks are unlike and of this colour."""
    begun = [mark + (colour - mark) % 2 for mark in marks]
    return sum(begun) - sum(marks) + _spread_sum(begun, 2)


def _company_sum(book):
    """The colour_sum of a BOOK that is one company."""
    slots = first_marks([ride for ride in book if is_riser(ride)])
    numbers = first_marks([ride for ride in book if not is_riser(ride)])
    if not slots or not numbers:
        return _spread_sum(slots + numbers, 1)
    return min([_coloured_sum(slots, colour) + _coloured_sum(numbers, 1 - colour) for colour in (0, 1)])


def colour_sum(shaft, book):
    """The least sum of WAITS that make all marks of each company unlike, of unlike colours."""
    return sum([_company_sum([book[man] for man in company]) for company in companies(shaft, book)])


def _barred_gaps(shaft, book):
    """For each man a list, for each other man, of the gaps of his wait less the other's that hinder."""
    table = []
    for ride in book:
        row = []
        for other in book:
            ahead = other[2] - ride[2]
            row.append([gap + ahead for gap in hinder_gaps(shaft, other, ride)])
        table.append(row)
    return table


def _least_wait(table, begun, man, wait):
    """The least wait of man, not less than wait, with which he hinders none of those begun."""
    while any([wait - own in table[man][other] for other, own in enumerate(begun)]):
        wait += 1
    return wait


def _filled_waits(table, begun, left):
    """The least WAITS that begin with begun, the others adding up to left or less; None if there are none."""
    man = len(begun)
    if man == len(table):
        return begun
    # What no later man can go below shows early that too little is left.
    if sum([_least_wait(table, begun, mate, 0) for mate in range(man, len(table))]) > left:
        return None
    wait = _least_wait(table, begun, man, 0)
    while wait <= left:
        found = _filled_waits(table, begun + [wait], left - wait)
        if found is not None:
            return found
        wait = _least_wait(table, begun, man, wait + 1)
    return None


def _company_waits(shaft, book):
    """The least_waits of a BOOK that is one company."""
    table = _barred_gaps(shaft, book)
    total = 0
    found = _filled_waits(table, [], total)
    while found is None:
        total += 1
        found = _filled_waits(table, [], total)
    return found


def least_waits(shaft, book):
    """The WAITS of the least sum, of these the least, with which the BOOK is free."""
    parts = companies(shaft, book)
    if any([len(company) > MOST_MEN for company in parts]):
        raise TooMuch()
    waits = [0] * len(book)
    for company in parts:
        found = _company_waits(shaft, [book[man] for man in company])
        for man, wait in zip(company, found):
            waits[man] = wait
    return tuple(waits)
