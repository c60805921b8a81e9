"""[26]: texts."""

import re
import unittest

from helpers import ODD_THINGS, check_manners, dice_of, same
from manrods.errors import BadLine
from manrods.mines import is_mine, is_run
from manrods.texts import (
    deed_by, deed_text, fault_by, fault_text, mine_by, mine_text, ride_by, ride_text, run_by, run_text)
from mineplay import random_deed, random_fault, random_run

WORDS = "deep 2, narrow\nrooms 0 1 1\ncistern 2: room 0, spring 2, measure 2, rod 0\nper 9"
MINE = ((4, True, (0, 2, 1, 1, 3)), ((4, 0, 3, 3, 0), (2, 6, 1, 4, 1)), 4, (10, 4, (5, 8)))
RUN = (
    MINE, ((4, 0, 0), (0, 4, 2), (2, 1, 3)), (("platform", (0, 0), 0), ("platform", (1, 4), 9), ("spring", 1, 2, 3), ("valve", 0, 1, 5)),
    ((0, ("couple", 0, False)), (2, ("cock", 1, 1)), (2, ("stoke", 5)), (3, ("mend", 2)), (5, ("bell",)), (5, ("couple", 0, True)),
     (9, ("board", 1, 4)), (40, ("aside", 2))), 7)
TEXT = """deep 4, wide
rooms 0 2 1 1 3
cistern 4: room 0, spring 3, measure 3, rod 0
cistern 2: room 6, spring 1, measure 4, rod 1
per 4
engine 10, 4: 5 8
ride 4 to 0, ready 0
ride 0 to 4, ready 2
ride 2 to 1, ready 3
fault platform 0 0, from 0
fault platform 1 4, from 9
fault spring 1 more 2, from 3
fault valve 0 less 1, from 5
at 0: uncouple 0
at 2: cock 1 by 1
at 2: stoke 5
at 3: mend 2
at 5: bell
at 5: couple 0
at 9: board 1 to 4
at 40: aside 2
rests 7"""
N = "(0|[1-9][0-9]{0,8})"
LINES = {
    "deep": f"deep {N}, (wide|narrow)", "rooms": f"rooms {N}( {N})*", "cistern": f"cistern {N}: room {N}, spring {N}, measure {N}, rod {N}",
    "per": f"per {N}", "engine": f"engine {N}, {N}: {N}( {N})*", "ride": f"ride {N} to {N}, ready {N}",
    "fault": f"fault (platform {N} {N}, from {N}|spring {N} more {N}, from {N}|valve {N} less {N}, from {N})",
    "at": f"at {N}: (board {N} to {N}|aside {N}|couple {N}|uncouple {N}|cock {N} by {N}|stoke {N}|mend {N}|bell)", "rests": f"rests {N}"}
FOLLOWS = {
    None: ("deep",), "deep": ("rooms",), "rooms": ("cistern",), "cistern": ("cistern", "per"), "per": ("engine", "ride", "fault", "at", "rests"),
    "engine": ("ride", "fault", "at", "rests"), "ride": ("ride", "fault", "at", "rests"), "fault": ("fault", "at", "rests"),
    "at": ("at", "rests"), "rests": ()}


class Check:
    """The lines of a text one by one, by expressions and by what each may be behind those ahead of it."""

    def __init__(self, text, whole):
        self.lines, self.whole, self.last = text.split("\n"), whole, None
        self.starts, self.faults, self.cisterns, self.rest = [], [], [], 0
        self.bad = None
        for at, line in enumerate(self.lines):
            if not self.line(line):
                self.bad = at + 1
                return
        if self.last not in (("rests",) if whole else ("per", "engine")):
            self.bad = len(self.lines) + 1

    def line(self, line):
        word = line.split(" ")[0]
        if word not in FOLLOWS[self.last] or re.fullmatch(LINES[word], line, re.ASCII) is None:
            return False
        if not self.whole and word not in ("deep", "rooms", "cistern", "per", "engine"):
            return False
        self.last = word
        return getattr(self, "is_" + word)(line, [int(part) for part in re.findall("[0-9]+", line)])

    def is_deep(self, line, numbers):
        self.deep = numbers[0]
        return self.deep >= 2

    def is_rooms(self, line, numbers):
        self.rooms = numbers
        return len(numbers) == self.deep + 1

    def is_cistern(self, line, numbers):
        fits = numbers[0] == self.deep if not self.cisterns else 1 <= numbers[0] < self.cisterns[-1]
        self.cisterns.append(numbers[0])
        return fits and numbers[3] >= 1 and numbers[4] <= 1

    def is_per(self, line, numbers):
        return numbers[0] >= 1

    def is_engine(self, line, numbers):
        return numbers[1] <= numbers[0]

    def is_ride(self, line, numbers):
        start, to, _ = numbers
        self.starts.append(start)
        if start == to or max(start, to) > self.deep:
            return False
        return start == 0 or self.starts.count(start) <= self.rooms[start]

    def is_fault(self, line, numbers):
        kind = line.split(" ")[1]
        self.faults.append((kind, *numbers))
        if len(self.faults) > 1 and self.faults[-2] >= self.faults[-1]:
            return False
        if kind == "platform":
            return numbers[0] <= 1 and numbers[0] <= numbers[1] < self.deep + numbers[0]
        return numbers[0] < len(self.cisterns) and numbers[1] >= 1

    def is_at(self, line, numbers):
        rest, numbers = numbers[0], numbers[1:]
        falls, self.rest = rest < self.rest, rest
        kind = line.split(" ")[2]
        limits = {
            "board": (len(self.starts), self.deep + 1), "aside": (len(self.starts),), "couple": (len(self.cisterns),),
            "uncouple": (len(self.cisterns),), "cock": (len(self.cisterns),), "mend": (len(self.faults),)}.get(kind, ())
        if any([number >= limit for number, limit in zip(numbers, limits)]) or falls:
            return False
        return kind not in ("cock", "stoke") or numbers[-1] >= 1

    def is_rests(self, line, numbers):
        return True

    def completed(self):
        """A whole text with the lines ahead of the bad one; None if it were too long to be written down."""
        ahead = self.lines[:self.bad - 1]
        last = ahead[-1].split(" ")[0] if ahead else None
        if last is None:
            return "\n".join([WORDS, "rests 0"])
        if last == "deep":
            if self.deep > 1000:
                return None
            ahead.append("rooms" + " 1" * (self.deep + 1))
            last = "rooms"
        if last == "rooms":
            ahead.append(f"cistern {self.deep}: room 0, spring 0, measure 1, rod 0")
            last = "cistern"
        if last == "cistern":
            ahead.append("per 1")
        if last != "rests" and self.whole:
            ahead.append("rests 0")
        return "\n".join(ahead)


def bent(text, dice):
    """Texts that differ from text at one place."""
    lines = text.split("\n")
    for at, line in enumerate(lines):
        yield "\n".join(lines[:at] + lines[at + 1:])
        yield "\n".join(lines[:at] + [line] + lines[at:])
        yield "\n".join(lines[:at] + [dice.choice(lines)] + lines[at:])
        yield "\n".join(lines[:at] + [""] + lines[at:])
        yield "\n".join(lines[:at] + lines[at:at + 2][::-1] + lines[at + 2:])
        yield "\n".join(lines[:at])
        for other in bent_lines(line, dice):
            yield "\n".join(lines[:at] + [other] + lines[at + 1:])
    yield text + "\n"
    yield "\n" + text
    yield text + "\nrests 0"
    yield text.replace("\n", "\r\n")
    yield text.replace("\n", "\n\n", 1)


def bent_lines(line, dice):
    yield from (line + " ", " " + line, line.replace(" ", "  ", 1), line.replace(" ", "\t", 1), line.upper(), line[:-1], line + "0", line + ",")
    yield from (line.replace(",", " ,", 1), line.replace(",", "", 1), line.replace(":", "", 1), line.replace(" ", "", 1), line + " 1", "x " + line)
    for match in re.finditer("[0-9]+", line):
        for number in ("0", "1", "2", "5", "00", "01", "0" + match.group(), "999999999", "1000000000", "-1", "+1", "1.0", "\u0662", "\u00b2", "x", "", "1_0"):
            yield line[:match.start()] + number + line[match.end():]
    words = line.split(" ")
    at = dice.randrange(len(words))
    yield " ".join(words[:at] + words[at + 1:])
    yield " ".join(words[:at] + [words[at]] + words[at:])


class There(unittest.TestCase):

    def test_texts(self):
        self.assertEqual(run_text(RUN), TEXT)
        self.assertEqual(mine_text(MINE), "\n".join(TEXT.split("\n")[:6]))
        self.assertEqual(mine_text(MINE[:3] + (None,)), "\n".join(TEXT.split("\n")[:5]))
        self.assertTrue(same(run_by(TEXT), RUN))
        self.assertTrue(same(mine_by(WORDS), ((2, False, (0, 1, 1)), ((2, 0, 2, 2, 0),), 9, None)))
        self.assertEqual(run_text((mine_by(WORDS), (), (), (), 0)), WORDS + "\nrests 0")

    def test_there_and_back(self):
        dice = dice_of("texts")
        for _ in range(300):
            run = random_run(dice)
            self.assertTrue(same(run_by(run_text(run)), run))
            self.assertTrue(same(mine_by(mine_text(run[0])), run[0]))
            self.assertEqual(Check(run_text(run), True).bad, None)
            for ride in run[1]:
                self.assertTrue(same(ride_by(ride_text(ride)), ride))
            for _ in range(3):
                fault, deed = random_fault(dice, run[0], 9), random_deed(dice, run[0], run[1], run[2])
                self.assertTrue(same(fault_by(fault_text(fault)), fault))
                self.assertTrue(same(deed_by(deed_text(deed)), deed))

    def test_single_lines(self):
        for thing, text, there, back in (
                ((4, 1, 2), "4 to 1, ready 2", ride_text, ride_by), ((0, 999999999, 0), "0 to 999999999, ready 0", ride_text, ride_by),
                (("valve", 3, 1, 0), "valve 3 less 1, from 0", fault_text, fault_by),
                (("platform", (1, 3), 7), "platform 1 3, from 7", fault_text, fault_by),
                (("platform", (0, 0), 0), "platform 0 0, from 0", fault_text, fault_by),
                (("spring", 0, 12, 5), "spring 0 more 12, from 5", fault_text, fault_by),
                (("board", 0, 2), "board 0 to 2", deed_text, deed_by), (("aside", 11), "aside 11", deed_text, deed_by),
                (("couple", 4, True), "couple 4", deed_text, deed_by), (("couple", 4, False), "uncouple 4", deed_text, deed_by),
                (("cock", 0, 7), "cock 0 by 7", deed_text, deed_by), (("stoke", 999999999), "stoke 999999999", deed_text, deed_by),
                (("mend", 0), "mend 0", deed_text, deed_by), (("bell",), "bell", deed_text, deed_by)):
            self.assertEqual(there(thing), text)
            self.assertTrue(same(back(text), thing), text)


class Bad(unittest.TestCase):

    def check_bad(self, call, text, line):
        with self.assertRaises(BadLine, msg=repr(text)) as caught:
            call(text)
        self.assertEqual(caught.exception.line, line, repr(text))

    def test_single_lines(self):
        for text in ("2 to 2, ready 0", "1 to 2", "1 to 2, ready 0\n", "ride 1 to 2, ready 0", "01 to 2, ready 0", "1 to 2,ready 0", "1 to 2, ready 1000000000"):
            self.check_bad(ride_by, text, 1)
        for text in (
                "platform 1 0, from 0", "platform 2 2, from 0", "platform 0 0", "valve 0 less 0, from 0", "spring 0 more 0, from 0",
                "spring 0 less 1, from 0", "valve 0 more 1, from 0", "fault valve 0 less 1, from 0", "valve 0 less 1, from 0 ", "valve 0 less 1"):
            self.check_bad(fault_by, text, 1)
        for text in (
                "stoke 0", "cock 1 by 0", "bell ", " bell", "bell 1", "BELL", "couple", "couple 1 True", "uncouple", "aside", "board 1 2", "board 1 to",
                "mend -1", "at 1: bell", "rests 1", "couple 01", "stoke \u0661"):
            self.check_bad(deed_by, text, 1)
        for call in (ride_by, fault_by, deed_by):
            for text in ("", "\n", " ", "N to N, ready N", "x", "1", "bell\nbell", "1 to 2, ready 3\n1 to 2, ready 3", "N"):
                self.check_bad(call, text, 1)

    def test_bent_single_lines(self):
        dice = dice_of("bent lines")
        rows = {
            ride_by: ("ride ", ["ride 4 to 1, ready 2"]),
            fault_by: ("fault ", ["fault platform 1 4, from 9", "fault spring 1 more 2, from 3", "fault valve 0 less 1, from 5"]),
            deed_by: ("at 0: ", ["at 0: uncouple 0", "at 0: cock 1 by 1", "at 0: stoke 5", "at 0: mend 2", "at 0: bell", "at 0: board 1 to 4"])}
        for call, (head, lines) in rows.items():
            for line in lines:
                for other in bent_lines(line[len(head):], dice):
                    told = head + other
                    word = head.split(" ")[0]
                    good = re.fullmatch(LINES[word], told, re.ASCII) is not None
                    numbers = [int(part) for part in re.findall("[0-9]+", other)] if good else []
                    if call == ride_by:
                        good = good and numbers[0] != numbers[1]
                    if other.startswith("platform"):
                        good = good and numbers[0] <= min(1, numbers[1])
                    if other.startswith(("spring", "valve")):
                        good = good and numbers[1] > 0
                    if other.startswith(("cock", "stoke")):
                        good = good and numbers[-1] > 0
                    if good:
                        call(other)
                    else:
                        self.check_bad(call, other, 1)

    def test_bent_texts(self):
        dice = dice_of("bent texts")
        texts = [(TEXT, True), (mine_text(MINE), False), (WORDS, False), (WORDS + "\nrests 3", True)]
        for _ in range(8):
            run = random_run(dice)
            texts += [(run_text(run), True), (mine_text(run[0]), False)]
        counts = {}
        for text, whole in texts:
            call = run_by if whole else mine_by
            for other in bent(text, dice):
                check = Check(other, whole)
                counts[check.bad is None] = counts.get(check.bad is None, 0) + 1
                if check.bad is None:
                    thing = call(other)
                    self.assertTrue((is_run if whole else is_mine)(thing))
                    self.assertEqual((run_text if whole else mine_text)(thing), other)
                    continue
                self.check_bad(call, other, check.bad)
                # The lines ahead of it are those of some text.
                self.check_completed(call, check)
        self.assertGreater(min(counts.values()), 500)

    def check_completed(self, call, check):
        whole = check.completed()
        if whole is not None:
            ahead = check.lines[:check.bad - 1]
            self.assertEqual(whole.split("\n")[:len(ahead)], ahead)
            if call == mine_by and whole.endswith("rests 0"):
                whole = whole[:-len("\nrests 0")]
            call(whole)

    def test_one_more_than_there_are(self):
        lines = TEXT.split("\n")
        for many in range(1, len(lines)):
            self.check_bad(run_by, "\n".join(lines[:many]), many + 1)
        for many in range(1, 5):
            self.check_bad(mine_by, "\n".join(lines[:many]), many + 1)
        self.assertEqual(mine_by("\n".join(lines[:5])), MINE[:3] + (None,))
        for many in range(7, 10):
            self.check_bad(mine_by, "\n".join(lines[:many]), 7)

    def test_empty_texts_and_line_feeds(self):
        for call in (mine_by, run_by):
            self.check_bad(call, "", 1)
            self.check_bad(call, "\n", 1)
            self.check_bad(call, " ", 1)
        self.check_bad(mine_by, WORDS + "\n", 5)
        self.check_bad(run_by, WORDS + "\n", 5)
        self.check_bad(run_by, TEXT + "\n", 23)
        self.check_bad(run_by, TEXT + "\n" + TEXT, 23)

    def test_what_its_mine_does_not_have(self):
        for line, other, at in (
                ("ride 4 to 0, ready 0", "ride 5 to 0, ready 0", 7), ("ride 2 to 1, ready 3", "ride 2 to 5, ready 3", 9),
                ("fault platform 1 4, from 9", "fault platform 1 5, from 9", 11), ("fault spring 1 more 2, from 3", "fault spring 2 more 2, from 3", 12),
                ("fault platform 0 0, from 0", "fault platform 0 4, from 0", 10), ("fault valve 0 less 1, from 5", "fault spring 1 more 2, from 3", 13),
                ("at 0: uncouple 0", "at 0: uncouple 2", 14), ("at 2: cock 1 by 1", "at 2: cock 2 by 1", 15), ("at 3: mend 2", "at 3: mend 4", 17),
                ("at 9: board 1 to 4", "at 9: board 3 to 4", 20), ("at 9: board 1 to 4", "at 9: board 1 to 5", 20), ("at 40: aside 2", "at 40: aside 3", 21),
                ("at 40: aside 2", "at 8: aside 2", 21), ("engine 10, 4: 5 8", "engine 3, 4: 5 8", 6), ("per 4", "per 0", 5),
                ("rooms 0 2 1 1 3", "rooms 0 2 1 1", 2), ("rooms 0 2 1 1 3", "rooms 0 2 1 1 3 3", 2), ("rooms 0 2 1 1 3", "rooms 0 2 0 1 3", 9),
                ("rooms 0 2 1 1 3", "rooms 0 2 1 1 0", 7), ("deep 4, wide", "deep 1, wide", 1), ("deep 4, wide", "deep 5, wide", 2)):
            self.assertIn(line, TEXT)
            self.check_bad(run_by, TEXT.replace(line, other), at)
            self.assertEqual(Check(TEXT.replace(line, other), True).bad, at)

    def test_great_numbers(self):
        self.check_bad(mine_by, "deep 999999999, wide", 2)
        self.check_bad(mine_by, "deep 999999999, wide\nrooms 0 1 2", 2)
        self.check_bad(mine_by, "deep 1000000000, wide", 1)
        self.assertEqual(mine_by(WORDS.replace("per 9", "per 999999999"))[2], 999999999)
        self.check_bad(mine_by, WORDS.replace("per 9", "per 9999999999"), 4)

    def test_odd_strings(self):
        for thing in [own for own in ODD_THINGS if isinstance(own, str)] + ["\x00", "deep", "deep 2", "\u2028", WORDS.replace("\n", "\u2028")]:
            for call in (mine_by, run_by):
                self.check_bad(call, thing, 1)


class Manners(unittest.TestCase):

    def test_manners(self):
        check_manners(self, mine_text, {"mine": MINE})
        check_manners(self, mine_text, {"mine": MINE[:3] + (None,)})
        check_manners(self, run_text, {"run": RUN})
        check_manners(self, ride_text, {"ride": (4, 1, 2)})
        for fault in RUN[2]:
            check_manners(self, fault_text, {"fault": fault})
        for _, deed in RUN[3]:
            check_manners(self, deed_text, {"deed": deed})
        for call, good in (
                (ride_by, "4 to 1, ready 2"), (fault_by, "platform 1 3, from 7"), (deed_by, "uncouple 3"), (mine_by, WORDS), (run_by, TEXT)):
            for text in (good, good + "\n"):
                check_manners(self, call, {"text": text})


if __name__ == "__main__":
    unittest.main()
