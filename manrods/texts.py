"""Texts of MINES, RUNS, RIDES, FAULTS and DEEDS, and back [26]."""

from manrods.deeds import is_deed
from manrods.errors import BadLine
from manrods.lines import FAULT_LINES, RIDE_LINE, Reader, deed_in, deed_line, fault_in, filled
from manrods.lines import numbers_behind, numbers_in, ride_in
from manrods.wear import is_fault

CISTERN_LINE = "cistern N: room N, spring N, measure N, rod N"


def mine_text(mine):
    """The text of a MINE."""
    (deep, wide, rooms), waters, per, engine = mine
    width = "wide" if wide else "narrow"
    rows = [f"deep {deep}, {width}", _listed("rooms", rooms)]
    rows.extend([filled(CISTERN_LINE, cistern) for cistern in waters])
    rows.append(f"per {per}")
    if engine is not None:
        room, begin, stokes = engine
        rows.append(_listed(f"engine {room}, {begin}:", stokes))
    return "\n".join(rows)


def _listed(words, numbers):
    """The words and the numbers behind them, a blank ahead of each."""
    return words + "".join([f" {number}" for number in numbers])


def run_text(run):
    """The text of a RUN."""
    mine, book, faults, told, many = run
    rows = [mine_text(mine)]
    rows.extend([f"ride {ride_text(ride)}" for ride in book])
    rows.extend([f"fault {fault_text(fault)}" for fault in faults])
    rows.extend([f"at {rest}: {deed_text(deed)}" for rest, deed in told])
    rows.append(f"rests {many}")
    return "\n".join(rows)


def ride_text(ride):
    """The text of a RIDE."""
    return filled(RIDE_LINE, ride)


def fault_text(fault):
    """The text of a FAULT."""
    kind, numbers = fault[0], fault[1:]
    if kind == "platform":
        rod, level = fault[1]
        numbers = (rod, level, fault[2])
    pattern = dict(FAULT_LINES)[kind]
    return filled(pattern, numbers)


def deed_text(deed):
    """The text of a DEED."""
    return deed_line(deed)


def _told_by(found):
    """What was found in a text of one line."""
    if found is None:
        raise BadLine(1)
    return found


def ride_by(text):
    """The RIDE with this text."""
    return _told_by(ride_in(text))


def fault_by(text):
    """The FAULT with this text."""
    return _told_by(fault_in(text))


def deed_by(text):
    """The DEED with this text."""
    return _told_by(deed_in(text))


def _shaft_in(line):
    """The pair of how deep a SHAFT is, and whether it is wide, by this line; None if it is no such line."""
    for words, wide in (("deep N, wide", True), ("deep N, narrow", False)):
        numbers = numbers_in(words, line)
        if numbers is not None and numbers[0] >= 2:
            return (numbers[0], wide)
    return None


def _rooms_in(line, deep):
    """The rooms for a SHAFT that is so deep by this line; None if it is no such line."""
    numbers = numbers_behind("rooms", line)
    if numbers is None or len(numbers) != deep + 1:
        return None
    return tuple(numbers)


def _cistern_in(line, least, deepest):
    """The CISTERN at a level from least to deepest by this line; None if it is no such line."""
    numbers = numbers_in(CISTERN_LINE, line)
    if numbers is None:
        return None
    level, _, _, measure, rod = numbers
    if not least <= level <= deepest or measure == 0 or rod > 1:
        return None
    return tuple(numbers)


def _per_in(line):
    """The per by this line; None if it is no such line."""
    numbers = numbers_in("per N", line)
    if numbers is None or numbers[0] == 0:
        return None
    return numbers[0]


def _engine_in(line):
    """The ENGINE by this line; None if it is no such line."""
    numbers = numbers_behind("engine N, N:", line)
    if numbers is None or numbers[1] > numbers[0]:
        return None
    return (numbers[0], numbers[1], tuple(numbers[2:]))


def _read_mine(reader):
    """The MINE of the next lines."""
    deep, wide = reader.must(_shaft_in(reader.peek()))
    rooms = reader.must(_rooms_in(reader.peek(), deep))
    waters = [reader.must(_cistern_in(reader.peek(), deep, deep))]
    cistern = _cistern_in(reader.peek(), 1, deep - 1)
    while cistern is not None:
        waters.append(reader.must(cistern))
        cistern = _cistern_in(reader.peek(), 1, cistern[0] - 1)
    per = reader.must(_per_in(reader.peek()))
    engine = _engine_in(reader.peek())
    if engine is not None:
        reader.must(engine)
    return ((deep, wide, rooms), tuple(waters), per, engine)


def _ride_for(shaft, book, line):
    """The RIDE by this line, with room where it begins beside those of book; None if it is no such line."""
    if not line.startswith("ride "):
        return None
    ride = ride_in(line[len("ride "):])
    if ride is None or max(ride[0], ride[1]) > shaft[0]:
        return None
    beside = [own for own in book if own[0] == ride[0]]
    if ride[0] > 0 and len(beside) >= shaft[2][ride[0]]:
        return None
    return ride


def _read_book(reader, shaft):
    """The BOOK of the next lines."""
    book = []
    ride = _ride_for(shaft, book, reader.peek())
    while ride is not None:
        book.append(reader.must(ride))
        ride = _ride_for(shaft, book, reader.peek())
    return tuple(book)


def _fault_for(mine, faults, line):
    """The FAULT of mine by this line, behind those of faults; None if it is no such line."""
    if not line.startswith("fault "):
        return None
    fault = fault_in(line[len("fault "):])
    if fault is None or not is_fault(mine, fault) or (faults and fault <= faults[-1]):
        return None
    return fault


def _read_faults(reader, mine):
    """The FAULTS of the next lines."""
    faults = []
    fault = _fault_for(mine, faults, reader.peek())
    while fault is not None:
        faults.append(reader.must(fault))
        fault = _fault_for(mine, faults, reader.peek())
    return tuple(faults)


def _told_in(line, least):
    """The pair of a rest, from least on, and of a DEED by this line; None if it is no such line."""
    head, _, tail = line.partition(": ")
    numbers, deed = numbers_in("at N", head), deed_in(tail)
    if numbers is None or deed is None or numbers[0] < least:
        return None
    return (numbers[0], deed)


def _read_told(reader, mine, men, faults):
    """The told DEEDS of the next lines, which name what is there."""
    told = []
    pair = _told_in(reader.peek(), 0)
    while pair is not None and is_deed(mine, men, faults, pair[1]):
        told.append(reader.must(pair))
        pair = _told_in(reader.peek(), pair[0])
    return tuple(told)


def mine_by(text):
    """The MINE with this text."""
    reader = Reader(text)
    mine = _read_mine(reader)
    reader.end()
    return mine


def run_by(text):
    """The RUN with this text."""
    reader = Reader(text)
    mine = _read_mine(reader)
    book = _read_book(reader, mine[0])
    faults = _read_faults(reader, mine)
    told = _read_told(reader, mine, len(book), len(faults))
    many = reader.must(numbers_in("rests N", reader.peek()))[0]
    reader.end()
    return (mine, book, faults, told, many)
