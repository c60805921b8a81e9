"""Lines of texts: patterns with numbers in them [26]."""

from manrods.errors import BadLine

DIGITS = "0123456789"
MOST_DIGITS = 9

# N stands for a number, nothing else has this letter.
RIDE_LINE = "N to N, ready N"
FAULT_LINES = (
    ("valve", "valve N less N, from N"), ("platform", "platform N N, from N"), ("spring", "spring N more N, from N"))
DEED_LINES = (
    ("board", "board N to N"), ("aside", "aside N"), ("couple", "couple N"), ("uncouple", "uncouple N"),
    ("cock", "cock N by N"), ("stoke", "stoke N"), ("mend", "mend N"), ("bell", "bell"))


def _number_of(word):
    """The number that word is; None if it is none."""
    if word == "" or len(word) > MOST_DIGITS or not all([sign in DIGITS for sign in word]):
        return None
    if word[0] == "0" and word != "0":
        return None
    return int(word)


def _number_by(word, wanted):
    """The number in word, wanted being N and what stands behind it; None if it is not so."""
    tail = wanted[1:]
    if not word.endswith(tail):
        return None
    return _number_of(word[:len(word) - len(tail)])


def numbers_in(pattern, line):
    """The list of the numbers that stand in line where pattern has N; None if line is not as pattern."""
    words, row = line.split(" "), pattern.split(" ")
    if len(words) != len(row):
        return None
    found = []
    for word, wanted in zip(words, row):
        if not wanted.startswith("N"):
            if word != wanted:
                return None
            continue
        number = _number_by(word, wanted)
        if number is None:
            return None
        found.append(number)
    return found


def filled(pattern, numbers):
    """The line that pattern is with these numbers in the places of N."""
    parts = pattern.split("N")
    return parts[0] + "".join([f"{number}{part}" for number, part in zip(numbers, parts[1:])])


def numbers_behind(word, line):
    """The list, not empty, of the numbers that stand behind word in line; None if it is not so."""
    return numbers_in(word + " N" * max(1, line.count(" ") - word.count(" ")), line)


def ride_in(line):
    """The RIDE, of two unlike levels, with this text; None if there is none."""
    numbers = numbers_in(RIDE_LINE, line)
    if numbers is None or numbers[0] == numbers[1]:
        return None
    return tuple(numbers)


def fault_in(line):
    """The FAULT of some MINE with this text; None if there is none."""
    for kind, pattern in FAULT_LINES:
        numbers = numbers_in(pattern, line)
        if numbers is None:
            continue
        if kind == "platform":
            rod, level, since = numbers
            if rod > 1 or level < rod:
                return None
            return (kind, (rod, level), since)
        if numbers[1] == 0:
            return None
        return (kind, *numbers)
    return None


def _deed_by(kind, numbers):
    """The DEED of this line of DEED_LINES with these numbers; None if there is none."""
    if kind in ("couple", "uncouple"):
        return ("couple", numbers[0], kind == "couple")
    if kind in ("cock", "stoke") and numbers[-1] == 0:
        return None
    return (kind, *numbers)


def deed_in(line):
    """The DEED, its amount from 1, with this text; None if there is none."""
    for kind, pattern in DEED_LINES:
        numbers = numbers_in(pattern, line)
        if numbers is not None:
            return _deed_by(kind, numbers)
    return None


def deed_line(deed):
    """The text of a DEED."""
    kind, numbers = deed[0], deed[1:]
    if kind == "couple":
        numbers = deed[1:2]
        if not deed[2]:
            kind = "uncouple"
    pattern = dict(DEED_LINES)[kind]
    return filled(pattern, numbers)


class Reader:
    """Lines of a text that are read one after another; at is how many were."""

    def __init__(self, text):
        self.lines = text.split("\n")
        self.at = 0

    def peek(self):
        """The next line; an empty one, which is none of any text, if there is none."""
        if self.at == len(self.lines):
            return ""
        return self.lines[self.at]

    def must(self, value):
        """What the next line says, which is read by this; it is bad if that is None."""
        if value is None:
            raise BadLine(self.at + 1)
        self.at += 1
        return value

    def end(self):
        """See that all lines were read."""
        if self.at < len(self.lines):
            raise BadLine(self.at + 1)
