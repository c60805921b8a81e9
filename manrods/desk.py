"""A desk: requests about a Board, from top to bottom, and the replies to them [28]."""

from manrods.board import Board
from manrods.errors import BadLine, NothingDone, Unfit
from manrods.lines import deed_in, numbers_in
from manrods.texts import deed_text, run_by

FIRST_MINE = ((2, False, (0, 0, 0)), ((2, 0, 0, 1, 0),), 1, None)
MOST_RESTS = 1000
# Requests of one word.
WORDS = ("run", "undo", "redo", "men", "held", "out", "home", "lost", "waiting", "told")


def _number_in(pattern, line):
    """The number of rests in line, where pattern has N; None if it is not so, or too great."""
    numbers = numbers_in(pattern, line)
    if numbers is None or numbers[0] > MOST_RESTS:
        return None
    return numbers[0]


def _try_in(line):
    """What is requested by a line that begins with try; None if nothing is."""
    _, _, tail = line.partition(" ")
    number, _, text = tail.partition(" ")
    many, deed = _number_in("N", number), deed_in(text)
    if many is None or deed is None:
        return None
    return ("try", many, deed)


def _asked_in(line):
    """What is requested by this line, as a tuple that begins with a word; None if nothing is."""
    if line in WORDS:
        return (line,)
    if line.startswith("try "):
        return _try_in(line)
    for word in ("rests", "ahead"):
        many = _number_in(f"{word} N", line)
        if many is not None and (word, many) != ("rests", 0):
            return (word, many)
    deed = deed_in(line)
    if deed is None:
        return None
    return ("deed", deed)


def _requests_in(text):
    """The list of the pairs of what each request asks and of its text."""
    begun = []
    for at, line in enumerate(text.split("\n")):
        if line.startswith(" ") and begun:
            begun[-1][2].append(line[1:])
        else:
            begun.append((at + 1, line, []))
    found = []
    for number, line, rows in begun:
        asked = _asked_in(line)
        if asked is None or (asked == ("run",)) != (rows != []):
            raise BadLine(number)
        found.append((asked, "\n".join(rows)))
    return found


def is_request(thing):
    """Whether thing is a string that is one request, whatever the text of run."""
    if not isinstance(thing, str):
        return False
    try:
        return len(_requests_in(thing)) == 1
    except BadLine:
        return False


def _row(values):
    """The reply that tells these values, a blank between."""
    if not values:
        return "-"
    return " ".join(["none" if value is None else str(value) for value in values])


def _rows(lines):
    """The reply that has these lines."""
    if not lines:
        return "-"
    return "\n".join(lines)


def _place_words(place):
    """A PLACE in words."""
    if place[0] == "aside":
        return f"aside {place[1]}"
    if place[0] == "rod":
        return f"rod {place[1]} at {place[2]}"
    return place[0]


def _man_line(place, aim):
    """The line that tells of a man."""
    words = _place_words(place)
    if aim is None:
        return words
    return f"{words}, to {aim[0]} from {aim[1]}"


def _board_of(text):
    """The Board of the RUN with this text, all its rests being done."""
    mine, book, faults, told, many = run_by(text)
    slate = Board(mine, book, faults)
    for rest in range(many):
        for own, deed in told:
            if own == rest:
                slate.do_deed(deed)
        slate.rests(1)
    return slate


class Desk:
    """A desk, which holds a Board."""

    def __init__(self):
        self.slate = Board(FIRST_MINE, (), ())

    def reply(self, asked, text):
        """The reply to what is asked."""
        try:
            if asked[0] in ("run", "deed", "rests", "undo", "redo"):
                return self.change(asked, text)
            return self.look(asked)
        except BadLine:
            return "refused BadLine"
        except NothingDone:
            return "refused NothingDone"
        except Unfit:
            return "refused Unfit"

    def change(self, asked, text):
        """Do what is asked; the reply."""
        word = asked[0]
        if word == "undo":
            return self.slate.undo()
        if word == "redo":
            return self.slate.redo()
        if word == "run":
            self.slate = _board_of(text)
        elif word == "deed":
            self.slate.do_deed(asked[1])
        else:
            self.slate.rests(asked[1])
        return "done"

    def look(self, asked):
        """The reply that tells what is asked."""
        word, slate = asked[0], self.slate
        if word == "men":
            men, aims = slate.standing()[4:6]
            return _rows([_man_line(place, aim) for place, aim in zip(men, aims)])
        if word == "told":
            return _rows([f"at {rest}: {deed_text(deed)}" for rest, deed in slate.told()])
        if word == "try":
            return _rows([_row(values) for values in slate.effect(asked[2], asked[1])])
        if word == "ahead":
            return _row(slate.home_ahead(asked[1]))
        return _row(self.numbers(word))

    def numbers(self, word):
        """The numbers that the look of this name tells."""
        if word == "held":
            return self.slate.standing()[2]
        if word == "out":
            return (self.slate.out(),)
        if word == "home":
            return self.slate.home()
        if word == "lost":
            return self.slate.lost()
        return self.slate.waiting()


def desk(text):
    """The list of the replies to the requests in text."""
    if text == "":
        return []
    held = Desk()
    return [held.reply(asked, own) for asked, own in _requests_in(text)]
