"""[28]: a desk."""

import re
import unittest

from helpers import ODD_THINGS, check_manners, deep_thing, dice_of, listed, same
from manrods.board import Board
from manrods.desk import desk, is_request
from manrods.errors import BadLine, NothingDone, Unfit
from manrods.mines import end_standing
from manrods.texts import deed_by, deed_text, run_by, run_text
from mineplay import play_by_hand, random_deed, random_run
from test_texts import LINES, N

FIRST = ((2, False, (0, 0, 0)), ((2, 0, 0, 1, 0),), 1, None)
PIT = ((3, True, (0, 2, 2, 2)), ((3, 0, 1, 2, 0),), 9, None)
SHEET = ("run\n deep 3, wide\n rooms 0 2 2 2\n cistern 3: room 0, spring 1, measure 2, rod 0\n per 9\n ride 2 to 0, ready 0\n"
         " ride 1 to 3, ready 4\n rests 0\n")
MILL = """run
 deep 4, wide
 rooms 0 2 1 1 3
 cistern 4: room 0, spring 3, measure 3, rod 0
 cistern 2: room 6, spring 1, measure 4, rod 1
 per 4
 engine 10, 4: 5 8
 ride 4 to 0, ready 0
 ride 0 to 4, ready 2
 ride 2 to 1, ready 30
 fault valve 0 less 1, from 5
 at 0: uncouple 0
 at 1: stoke 1
 at 9: bell
 rests 3"""
DEED = LINES["at"].replace(f"at {N}: ", "")
GOOD = re.compile(f"{DEED}|(rests|ahead) {N}|undo|redo|men|held|out|home|lost|waiting|told|run|try {N} ({DEED})", re.ASCII)


def indented(text):
    return "run\n" + "\n".join([" " + line for line in text.split("\n")])


def is_line(line):
    """Whether a request can begin with this line, told by an expression."""
    if GOOD.fullmatch(line) is None:
        return False
    words = line.split(" ")
    if words[0] in ("stoke", "cock") or words[0] == "try" and words[2] in ("stoke", "cock"):
        return int(words[-1]) > 0
    if words[0] in ("rests", "ahead", "try"):
        return (words[0] == "rests") <= int(words[1]) <= 1000
    return True


def bad_line(text):
    """The first line that is none; None if all are."""
    lines = text.split("\n")
    for at, line in enumerate(lines):
        if at > 0 and line.startswith(" "):
            continue
        has_text = at + 1 < len(lines) and lines[at + 1].startswith(" ")
        if not is_line(line) or has_text != (line == "run"):
            return at + 1
    return None


def words_of(values):
    return " ".join(["none" if value is None else str(value) for value in values]) or "-"


class Own:
    """A desk by a Board, request by request."""

    def __init__(self):
        self.slate = Board(FIRST, (), ())

    def reply(self, request):
        line, _, text = request.partition("\n")
        try:
            return getattr(self, line.split(" ")[0], self.deed)(line, text)
        except (BadLine, NothingDone, Unfit) as error:
            return "refused " + type(error).__name__

    def deed(self, line, text):
        deed = deed_by(line)
        getattr(self.slate, deed[0])(*deed[1:])
        return "done"

    def run(self, line, text):
        mine, book, faults, told, many = run_by("\n".join([row[1:] for row in text.split("\n")]))
        board = Board(mine, book, faults)
        for rest in range(many):
            for own, deed in told:
                if own == rest:
                    getattr(board, deed[0])(*deed[1:])
            board.rests(1)
        self.slate = board
        return "done"

    def rests(self, line, text):
        self.slate.rests(int(line.split(" ")[1]))
        return "done"

    def undo(self, line, text):
        return self.slate.undo()

    def redo(self, line, text):
        return self.slate.redo()

    def men(self, line, text):
        rows = []
        for place, aim in zip(*self.slate.standing()[4:6]):
            told = {"rod": "rod {1} at {2}", "aside": "aside {1}"}.get(place[0], "{0}").format(*place)
            rows.append(told if aim is None else told + ", to {} from {}".format(*aim))
        return "\n".join(rows) or "-"

    def held(self, line, text):
        return words_of(self.slate.standing()[2])

    def out(self, line, text):
        return str(self.slate.out())

    def home(self, line, text):
        return words_of(self.slate.home())

    def lost(self, line, text):
        return words_of(self.slate.lost())

    def waiting(self, line, text):
        return words_of(self.slate.waiting())

    def told(self, line, text):
        return "\n".join([f"at {rest}: {deed_text(deed)}" for rest, deed in self.slate.told()]) or "-"

    def ahead(self, line, text):
        return words_of(self.slate.home_ahead(int(line.split(" ")[1])))

    def trial(self, line, text):
        _, many, deed = line.split(" ", 2)
        return "\n".join([words_of(row) for row in self.slate.effect(deed_by(deed), int(many))])


setattr(Own, "try", Own.trial)


def random_request(dice, run):
    """A request that fits a RUN more or less."""
    deed = deed_text(random_deed(dice, *run[:3]))
    word = dice.choice(("deed", "deed", "deed", "rests", "rests", "undo", "redo", "look", "look", "ahead", "try", "run"))
    if word == "deed":
        return dice.choice((deed, deed, dice.choice(("uncouple 0", "couple 0"))))
    if word == "rests":
        return f"rests {dice.randint(1, 4)}"
    if word == "ahead":
        return f"ahead {dice.randint(0, 9)}"
    if word == "try":
        return f"try {dice.randint(0, 9)} {deed}"
    if word == "look":
        return dice.choice(("men", "held", "out", "home", "lost", "waiting", "told"))
    if word == "run":
        return random_text(dice, run)
    return word


def random_text(dice, run):
    """A request run, whose text is mostly one of a RUN, whose DEEDS can mostly be done."""
    mine, book, faults, told, many = run
    if dice.random() < 0.3:
        told += ((many + 1, ("bell",)),) if dice.random() < 0.5 else ((many, random_deed(dice, mine, book, faults)),)
        many += dice.randint(0, 1)
    text = run_text((mine, book, faults, told, many))
    if dice.random() < 0.2:
        lines = text.split("\n")
        del lines[dice.randrange(len(lines))]
        text = "\n".join(lines)
    return indented(text)


class Requests(unittest.TestCase):

    def test_against_own_desk(self):
        dice = dice_of("desk")
        counts = {}
        for _ in range(200):
            own, run = Own(), random_run(dice, 8, most=4)
            requests = [random_text(dice, run)] if dice.random() < 0.9 else []
            requests += [random_request(dice, run) for _ in range(dice.randint(1, 14))]
            replies = [own.reply(request) for request in requests]
            self.assertEqual(desk("\n".join(requests)), replies, requests)
            for request, reply in zip(requests, replies):
                self.assertIs(is_request(request), True, request)
                word = reply if reply.startswith("refused") or reply == "-" else request.split("\n")[0].split(" ")[0]
                counts[word] = counts.get(word, 0) + 1
        for word in (
                "refused BadLine", "refused Unfit", "refused NothingDone", "-", "run", "board", "aside", "couple", "uncouple", "cock", "stoke",
                "mend", "bell", "rests", "undo", "redo", "men", "held", "out", "home", "lost", "waiting", "told", "ahead", "try"):
            self.assertGreater(counts.get(word, 0), 1, word)

    def test_the_first_board(self):
        looks = "men\nheld\nout\nhome\nlost\nwaiting\ntold\nahead 5\ntry 5 bell\nundo\nredo"
        self.assertEqual(desk(looks), ["-", "0", "0", "-", "-", "-", "-", "-", "-\n-", "refused NothingDone", "refused NothingDone"])
        self.assertEqual(desk("couple 0\nuncouple 0\ntold\nboard 0 to 1\nundo\ntold"), ["refused Unfit", "done", "at 0: uncouple 0", "refused Unfit", "couple", "-"])
        self.assertEqual(desk("rests 1000\nundo\nredo\nheld"), ["done", "rests", "rests", "0"])
        self.assertEqual(desk(""), [])

    def test_replies(self):
        self.assertEqual(desk(MILL + "\nmen\nheld\nout\nhome\nlost\nwaiting\ntold\nahead 9"), [
            "done", "rod 1 at 1, to 0 from 0\nrod 0 at 1, to 4 from 2\naside 2, to 1 from 30", "3 0", "1", "-", "-", "2",
            "at 0: uncouple 0\nat 1: stoke 1", "2 none none"])
        self.assertEqual(desk(MILL + "\nrests 3\nmen\nhome\nlost\ntold"), [
            "done", "done", "grass\nlost\naside 2, to 1 from 30", "0", "1", "at 0: uncouple 0\nat 1: stoke 1"])
        self.assertEqual(desk(MILL + "\ntry 9 bell\nbell\nmen"), [
            "done", "2 none none\n2 4 3", "done", "rod 1 at 1, to 0 from 3\nrod 0 at 1, to 0 from 3\naside 2, to 0 from 3"])

    def test_refused_requests_change_nothing(self):
        bad = ["couple 0", "board 9 to 0", "cock 0 by 1", "stoke 5", "mend 0", "redo", "try 3 mend 0", "run\n x", "run\n ", SHEET.replace("ready 0", "ready")[:-1],
               SHEET.replace(" rests 0\n", " at 0: stoke 5\n rests 1"), SHEET.replace(" rests 0\n", " at 2: couple 0\n rests 3")]
        looks = "\nmen\nheld\nout\ntold\nahead 9"
        kept = desk(SHEET + "rests 2\nboard 1 to 2" + looks)[3:]
        for request in bad:
            found = desk(SHEET + "rests 2\nboard 1 to 2\n" + request + looks + "\nundo\nredo")
            self.assertEqual(found[4:9], kept, request)
            self.assertTrue(found[3].startswith("refused "), request)
            self.assertEqual(found[9:], ["board", "board"])
        replies = [desk(SHEET + "rests 2\n" + request)[2] for request in bad]
        names = ["Unfit"] * 5 + ["NothingDone", "Unfit", "BadLine", "BadLine", "BadLine", "Unfit", "Unfit"]
        self.assertEqual(replies, ["refused " + name for name in names])

    def test_undo_behind_run(self):
        self.assertEqual(desk(MILL + "\nundo" * 7 + "\nredo" * 7), [
            "done", "rests", "rests", "stoke", "rests", "couple", "refused NothingDone", "refused NothingDone",
            "couple", "rests", "stoke", "rests", "rests", "refused NothingDone", "refused NothingDone"])
        # What stood ahead of run is gone.
        self.assertEqual(desk("rests 3\nuncouple 0\nundo\n" + SHEET + "redo\nundo"), ["done", "done", "couple", "done"] + ["refused NothingDone"] * 2)

    def test_deeds_of_later_rests_are_left_out(self):
        for many, told in ((1, "at 0: bell"), (3, "at 0: bell\nat 2: uncouple 0"), (9, "refused Unfit")):
            text = SHEET.replace(" rests 0\n", f" at 0: bell\n at 2: uncouple 0\n at 3: uncouple 0\n rests {many}\ntold")
            self.assertEqual(desk(text)[-1 if many < 9 else 0], told)

    def test_deeds_of_the_last_rest_can_be_done(self):
        text = SHEET.replace(" rests 0\n", " at 2: uncouple 0\n rests 2\n")
        self.assertEqual(desk(text + "told\nuncouple 0\ntold"), ["done", "-", "done", "at 2: uncouple 0"])

    def test_as_rests_of_has_it(self):
        dice = dice_of("as rests_of")
        for _ in range(60):
            run = random_run(dice, 9)
            standing, play = end_standing(run), play_by_hand(run)
            found = desk(indented(run_text(run)) + "\nheld\nout\nmen")
            self.assertEqual(found[:3], ["done", words_of(standing[2]), str(sum(play.outs))])
            self.assertEqual(len(found[3].split("\n")), max(1, len(run[1])))


class Lines(unittest.TestCase):

    def check_bad(self, text, line):
        self.assertEqual(bad_line(text), line, repr(text))
        with self.assertRaises(BadLine, msg=repr(text)) as caught:
            desk(text)
        self.assertEqual(caught.exception.line, line, repr(text))

    def test_bad_lines(self):
        for text, line in (
                ("undo\n", 2), ("\n", 1), ("\nundo", 1), ("undo\n\nundo", 2), (" undo", 1), (" ", 1), (" x\nundo", 1), ("run", 1), ("run\nundo", 1),
                ("undo\n x", 1), ("undo\n ", 1), ("men\nundo\n x\nrun", 2), ("men\nrun\n x\n\nmen", 4), ("men\nmen\nrests 0", 3), ("rests 1001", 1),
                ("ahead 1001", 1), ("ahead", 1), ("rests", 1), ("rests 1 2", 1), ("rests 01", 1), ("rests  1", 1), ("rests 1 ", 1), ("undo ", 1),
                ("Undo", 1), ("try 3", 1), ("try bell", 1), ("try 3 undo", 1), ("try 3 rests 1", 1), ("try 1001 bell", 1), ("try 3  bell", 1),
                ("try 3 stoke 0", 1), ("stoke 0", 1), ("cock 1 by 0", 1), ("board 1", 1), ("at 1: bell", 1), ("run x", 1), ("run \n x", 1), ("told 1", 1),
                ("undo\r\nundo", 1), ("\tundo", 1), ("undo undo", 1), ("deed", 1), ("standing", 1), ("twin", 1), ("effect", 1), ("mend -1", 1),
                ("rests 1000000000", 1), ("rests \u0661", 1), ("ahead 3\nrest 3", 2), ("x", 1), (SHEET, 9), (SHEET + "men\n", 10)):
            self.check_bad(text, line)

    def test_good_lines(self):
        for line in (
                "undo", "redo", "men", "held", "out", "home", "lost", "waiting", "told", "rests 1", "rests 1000", "ahead 0", "ahead 1000", "try 0 bell",
                "try 1000 cock 3 by 1", "board 0 to 0", "aside 999999999", "couple 3", "uncouple 3", "cock 0 by 1", "stoke 1", "mend 7", "bell",
                "run\n ", "run\n x\n  y", "run\n \n ", SHEET[:-1]):
            self.assertIs(is_request(line), True, line)
            self.assertEqual(bad_line(line), None)
            self.assertEqual(len(desk(line)), 1)
            self.assertEqual(len(desk("men\n" + line + "\nmen")), 3)

    def test_before_all_else(self):
        # Nothing is done, so nothing is refused, if a later line is none.
        self.check_bad("rests 1000\n" * 900 + "rests 0", 901)

    def test_bent_texts(self):
        dice = dice_of("bent desks")
        texts = [MILL + "\nmen\nrests 3\ntry 4 uncouple 0\nundo\nahead 7\nboard 1 to 2", "undo\n" + SHEET + "cock 1 by 2\nrests 12"]
        counts = {True: 0, False: 0}
        for text in texts:
            for _ in range(700):
                at = dice.randrange(len(text))
                other = dice.choice((
                    text[:at] + text[at + 1:], text[:at] + dice.choice(" \n0x") + text[at:], text[:at] + text[at - 1:], text[:at]))
                counts[bad_line(other) is None] += 1
                if bad_line(other) is None:
                    own = Own()
                    requests = re.split("\n(?! )", other) if other else []
                    self.assertEqual(desk(other), [own.reply(request) for request in requests])
                elif other:
                    self.check_bad(other, bad_line(other))
        self.assertGreater(min(counts.values()), 100)

    def test_is_request(self):
        for thing in (*ODD_THINGS, deep_thing(100), ["undo"], ("undo",), b"undo"):
            self.assertIs(is_request(thing), False, thing)
        for text in ("", "undo\n", "undo\nundo", "\nundo", " undo", "run", "run\n", "run\nx", "undo\n x", "rests 0", "stoke 0", "run\n x\n", "run\n x\nmen"):
            self.assertIs(is_request(text), False, text)
        dice = dice_of("requests")
        for _ in range(300):
            run = random_run(dice, 3)
            request = random_request(dice, run)
            at = dice.randrange(len(request) + 1)
            for other in (request, request[:at] + dice.choice(" \n0") + request[at:], request[:at]):
                single = bad_line(other) is None and len(re.split("\n(?! )", other)) == 1
                self.assertIs(is_request(other), single, repr(other))


class Manners(unittest.TestCase):

    def test_manners(self):
        for text in (MILL + "\nmen\nrests 3\nahead 7", "undo\n", ""):
            check_manners(self, desk, {"text": text})
        for thing in ("undo", "undo\n", None, ("undo",)):
            check_manners(self, is_request, {"thing": thing}, ("thing",))
        self.assertIs(is_request(listed(("undo",))), False)
        self.assertTrue(same(desk("out"), ["0"]))


if __name__ == "__main__":
    unittest.main()
