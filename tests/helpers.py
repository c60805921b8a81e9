"""What the tests share: examples as the document writes them, lists for tuples, shafts."""

import copy
import itertools
import random

from manrods.errors import BadLine, CanNot, NoPlace, NothingDone, TooMuch, Unfit

ERRORS = {
    "NoPlace": NoPlace, "NothingDone": NothingDone, "BadLine": BadLine,
    "CanNot": CanNot, "TooMuch": TooMuch, "Unfit": Unfit,
}


def listed(value):
    """The value with a list in the place of each tuple."""
    if isinstance(value, (list, tuple)):
        return [listed(part) for part in value]
    return value


def same(one, two):
    """Whether both are equal, True and 1, lists and tuples being unlike at any depth."""
    if type(one) is not type(two):
        return False
    if isinstance(one, (list, tuple)):
        return len(one) == len(two) and all(same(a, b) for a, b in zip(one, two))
    return one == two


def run_examples(case, text, names):
    """Run rows behind >>> one by one; the row behind each one is its value, or what it raises."""
    rows = [row.strip() for row in text.strip().split("\n")]
    at = 0
    while at < len(rows):
        case.assertTrue(rows[at].startswith(">>> "), rows[at])
        code = rows[at][4:]
        at += 1
        told = None
        if at < len(rows) and not rows[at].startswith(">>> "):
            told = rows[at]
            at += 1
        with case.subTest(row=code):
            run_example(case, code, told, names)


def run_example(case, code, told, names):
    """Run one row: an assignment, a value, or an error with the attributes that it keeps."""
    if told is None:
        exec(code, names)
        return
    if not told.startswith("raises "):
        expected, found = eval(told, names), eval(code, names)
        case.assertTrue(same(found, expected), (code, found, expected))
        return
    name, kept = told[len("raises "):].rstrip(")").split("(")
    with case.assertRaises(ERRORS[name]) as caught:
        eval(code, names)
    attributes = dict([part.split("=") for part in kept.split(", ")]) if kept else {}
    case.assertEqual(vars(caught.exception), {key: eval(word) for key, word in attributes.items()})


def outcome(call, *args, **named):
    """What the call returns, or which error it raises with which attributes."""
    try:
        return ("value", call(*args, **named))
    except tuple(ERRORS.values()) as error:
        return ("error", type(error).__name__, vars(error))


def check_manners(case, call, named, things=()):
    """Check what [2] says of all calls; things are the names of the arguments that stay as they are.

    By name and by place the same comes out, lists and tuples in one another's place too; arguments
    stay as they were; a list that is returned is another one at each call.
    """
    first = outcome(call, **named)
    kept = copy.deepcopy(named)
    case.assertTrue(same(outcome(call, **named), first))
    case.assertTrue(same(outcome(call, *named.values()), first))
    lists = {name: value if name in things else listed(value) for name, value in named.items()}
    lists_kept = copy.deepcopy(lists)
    case.assertTrue(same(outcome(call, **lists), first), (call.__name__, outcome(call, **lists), first))
    case.assertTrue(same(named, kept), call.__name__)
    case.assertTrue(same(lists, lists_kept), call.__name__)
    if first[0] == "value" and isinstance(first[1], list):
        again = call(**named)
        case.assertIsNot(again, first[1])
        again.append("spoilt")
        case.assertTrue(same(outcome(call, **named), first))


ODD_THINGS = (
    None, True, False, 0, 1, -1, 7, 10 ** 30, "", "grass", "rod", (), [], ((),), ([],), (None,), (1,), (1, 2), (1, 2, 3),
    (1, 2, 3, 4), [1, 2, 3], (True, False), (True, 1, 0), ("a", "b"), ("a", "b", "c"), ((1, 2), (3, 4)), (((1,),),),
    ((), ()), ((), (), ()), ((), (), True, 1), (None, None), ("rod", 0, 1), ("lost",), ("aside", 1),
)


def deep_thing(depth):
    """A tuple nested so deep."""
    thing = ()
    for _ in range(depth):
        thing = (thing,)
    return thing


def spoilt(thing):
    """All values that differ from thing in one place: another value there, a place less, one more, a list."""
    if isinstance(thing, tuple):
        yield list(thing)
        yield thing + (thing[-1] if thing else 0,)
        for at, part in enumerate(thing):
            yield thing[:at] + thing[at + 1:]
            for other in spoilt(part):
                yield thing[:at] + (other,) + thing[at + 1:]
    for other in (None, True, False, -1, "x", 10 ** 20, (), ("x",)):
        if not same(other, thing):
            yield other


def shaft_of(deep, wide, room=40):
    """A SHAFT with the same room at each level."""
    return (deep, wide, (room,) * (deep + 1))


def all_rides(deep, readies):
    """The list of all RIDES with these readies."""
    levels = range(deep + 1)
    return [(a, b, n) for a, b, n in itertools.product(levels, levels, readies) if a != b]


def random_book(dice, deep, many, last):
    """A BOOK of so many RIDES, ready from 0 to last."""
    return tuple([(*dice.sample(range(deep + 1), 2), dice.randint(0, last)) for _ in range(many)])


def dice_of(word):
    """Dice that fall alike each time."""
    return random.Random(word)


def random_waters(dice, deep, many, last):
    """WATERS for deep of at most so many CISTERNS, rooms, springs and measures to last."""
    levels = sorted(dice.sample(range(1, deep), min(deep - 1, dice.randint(0, many - 1))), reverse=True)
    return tuple([
        (level, dice.randint(0, last), dice.randint(0, last) if dice.random() < 0.7 else 0, dice.randint(1, last),
         dice.randint(0, 1))
        for level in (deep, *levels)])


def random_held(dice, waters, last):
    """HELD of waters, in the sump to last."""
    return tuple([dice.randint(0, last if at == 0 else cistern[1]) for at, cistern in enumerate(waters)])


def is_held_by_hand(waters, thing):
    """Whether thing is HELD, told by hand."""
    if type(thing) is not tuple or len(thing) != len(waters):
        return False
    for at, amount in enumerate(thing):
        if type(amount) is not int or amount < 0 or at > 0 and amount > waters[at][1]:
            return False
    return True


class WaterPlay:
    """The water of rests by the words of [12], unit by unit of what is lifted, told or spilt."""

    def __init__(self, waters, held):
        self.waters, self.held, self.out, self.sprung = waters, list(held), 0, 0

    def lift(self, rod, loose=(), leaks=None):
        """What each lift brings if this rod rises; it is brought at once."""
        brought = [0] * len(self.waters)
        for at, (_, _, _, measure, own) in enumerate(self.waters):
            if own != rod or at in loose:
                continue
            found = self.held[at] if self.held[at] < measure else measure
            leak = leaks[at] if leaks else 0
            if found > leak:
                brought[at] = found - leak
        for at, amount in enumerate(brought):
            self.held[at] -= amount
        for at, amount in enumerate(brought):
            if at + 1 == len(self.waters):
                self.out += amount
            else:
                self.held[at + 1] += amount
        return tuple(brought)

    def spring(self):
        """Each CISTERN has its spring more."""
        for at, cistern in enumerate(self.waters):
            self.held[at] += cistern[2]
            self.sprung += cistern[2]

    def spill(self):
        """What is above its room goes down, the topmost one first."""
        for at in reversed(range(1, len(self.waters))):
            while self.held[at] > self.waters[at][1]:
                over = self.held[at] - self.waters[at][1]
                self.held[at] -= over
                self.held[at - 1] += over

    def rest(self, rest, made, moved=True, loose=(), leaks=None):
        """The water of a rest."""
        if moved:
            self.lift(1 if made % 2 == 0 else 0, loose, leaks)
        if rest % 2 == 1:
            self.spring()
        self.spill()


def plain_rows(waters, held, many):
    """The list of HELD, and that of all that came out, behind 0 .. many rests of the plain run, by own play."""
    play = WaterPlay(waters, held)
    rows, outs = [tuple(play.held)], [0]
    for rest in range(many):
        play.rest(rest, rest)
        rows.append(tuple(play.held))
        outs.append(play.out)
    return rows, outs


def wet_by_hand(deep, per, held):
    """The list of the levels that are drowned, told one by one."""
    return [level for level in range(1, deep + 1) if held[0] >= per * (deep - level + 1)]


def random_mine(dice, last=5, most=4, engines=True):
    """A MINE with WATERS of at most so many CISTERNS; with an ENGINE, mostly a weak one, if engines is True."""
    deep = dice.randint(2, 6)
    waters = random_waters(dice, deep, most, last)
    engine = None
    if engines and dice.random() < 0.8:
        room = dice.randint(0, dice.choice((10, 40)))
        stokes = tuple([dice.randint(0, dice.choice((2, 9, 20))) for _ in range(dice.randint(1, 4))])
        engine = (room, dice.randint(0, room), stokes)
    return (shaft_of(deep, dice.random() < 0.5), waters, dice.randint(1, 4), engine)


def weight_by_hand(waters, brought):
    """The weight of a stroke at which the lifts bring so much: level by level, unit by unit."""
    levels = [cistern[0] for cistern in waters] + [0]
    return sum([amount * len(range(levels[at + 1], levels[at])) for at, amount in enumerate(brought)])


class LonePlay:
    """The lone run of a MINE by the words of [16]: rows behind each rest, missed strokes, weights."""

    def __init__(self, mine, many, all_made=False):
        self.mine, self.all_made = mine, all_made
        self.water = WaterPlay(mine[1], [0] * len(mine[1]))
        self.made, self.steam = 0, mine[3][1] if mine[3] else 0
        self.rows, self.missed, self.weights = [], [], []
        self.note()
        for rest in range(many):
            self.rest(rest)

    def note(self):
        self.rows.append((self.made, tuple(self.water.held), self.steam))

    def rest(self, rest):
        trial = WaterPlay(self.mine[1], self.water.held)
        weight = weight_by_hand(self.mine[1], trial.lift(1 if self.made % 2 == 0 else 0))
        self.weights.append(weight)
        moved = self.all_made or self.mine[3] is None or self.steam >= weight
        self.water.rest(rest, self.made, moved)
        if moved:
            self.made += 1
        else:
            self.missed.append(rest)
        if self.mine[3]:
            room, _, stokes = self.mine[3]
            self.steam = min(room, self.steam - (weight if moved else 0) + stokes[rest % len(stokes)])
        self.note()
