"""Own plays of mines, by the words of the document: the men of a rest [9], whole runs [20], accounts [21]."""

from helpers import WaterPlay, random_book, random_waters, weight_by_hand
from manrods.shafts import faced_level, goes_with, platforms

GRASS, LOST = ("grass",), ("lost",)


def aside(level):
    return ("aside", level)


def rod(number, level):
    return ("rod", number, level)


class RestPlay:
    """One rest, on a dict of who stands on which PLATFORM, as the table of [9] tells it."""

    def __init__(self, shaft, made, fresh, crowd, broken):
        self.shaft, self.made, self.fresh, self.broken = shaft, made, fresh, broken
        self.men, self.aims = list(crowd[0]), list(crowd[1])

    def level(self, man):
        place = self.men[man]
        return {"grass": 0, "lost": None}.get(place[0], place[-1])

    def on(self):
        return {
            platform: man for man, place in enumerate(self.men) for platform in platforms(self.shaft)
            if place == rod(platform[0], faced_level(platform, self.made))}

    def want(self, man):
        level, aim = self.level(man), self.aims[man]
        if aim is None or aim[0] == level or (self.men[man][0] != "rod" and aim[1] > self.made):
            return None
        step = 1 if aim[0] > level else -1
        return [
            platform for platform in platforms(self.shaft)
            if faced_level(platform, self.made) == level and goes_with(platform, self.made) == step][0]

    def put(self, man, platform):
        self.men[man] = rod(platform[0], faced_level(platform, self.made))

    def one_and_two(self):
        for platform, man in self.on().items():
            if platform in self.broken:
                self.men[man], self.aims[man] = LOST, None
        for man in range(len(self.men)):
            level = self.level(man)
            if self.aims[man] is None or self.aims[man][0] != level:
                continue
            if self.men[man][0] == "rod":
                free = level == 0 or self.men.count(aside(level)) < self.shaft[2][level]
                if free:
                    self.men[man] = GRASS if level == 0 else aside(level)
                    self.aims[man] = None
            else:
                self.aims[man] = None
        return self

    def three_and_four(self):
        on = self.on()
        to = {}
        for platform, man in on.items():
            want = self.want(man)
            if want in (None, platform):
                continue
            if want in on:
                if self.shaft[1] and (self.fresh or self.want(on[want]) != want):
                    to[man], to[on[want]] = want, platform
            elif want not in self.broken:
                to[man] = want
        for man, platform in to.items():
            self.put(man, platform)
        for man in range(len(self.men)):
            want = self.want(man)
            if self.men[man][0] != "rod" and want is not None and want not in self.on() and want not in self.broken:
                self.put(man, want)
        return self

    def crowd(self):
        return (tuple(self.men), tuple(self.aims))


def random_crowd(dice, shaft, made, many):
    """A CROWD of shaft at made, of all kinds of men."""
    deep = shaft[0]
    free = {}
    for platform in platforms(shaft):
        free[rod(platform[0], faced_level(platform, made))] = 1
    for level in range(1, deep + 1):
        free[aside(level)] = shaft[2][level]
    free[GRASS] = free[LOST] = many
    men, aims = [], []
    for _ in range(many):
        place = dice.choice([place for place in free if free[place] and (place[0] == "rod" or dice.random() < 0.4)] or [GRASS])
        free[place] -= 1
        men.append(place)
        aim = (dice.randint(0, deep), max(0, made + dice.randint(-2, 1)))
        aims.append(None if place == LOST or place[0] != "rod" and dice.random() < 0.3 else aim)
    return (tuple(men), tuple(aims))


class MinePlay:
    """A mine from a STANDING on by the words of [20]; what [21] asks for is counted unit by unit, man by man."""

    def __init__(self, mine, faults, standing):
        self.mine, self.faults = mine, faults
        self.rest, self.made, held, self.steam, men, aims, loose, mended, self.moved = standing
        self.held, self.men, self.aims, self.loose, self.mended = list(held), list(men), list(aims), list(loose), list(mended)
        self.came, self.lifted, self.spilt, self.let = [[0] * len(held) for _ in range(4)]
        self.given, self.spent, self.over = self.steam, 0, 0
        self.man_ways = [[0, 0] for _ in men]
        self.stride_ways = [[0, 0] for _ in range(mine[0][0])]
        self.outs, self.rows, self.drops = [], [self.standing()], []

    def standing(self):
        return (
            self.rest, self.made, tuple(self.held), self.steam, tuple(self.men), tuple(self.aims),
            tuple(sorted(self.loose)), tuple(sorted(self.mended)), self.moved)

    def level(self, man):
        return {"grass": 0, "lost": None}.get(self.men[man][0], self.men[man][-1])

    def deed(self, deed):
        """Do it if it can be done; whether it could."""
        return getattr(self, "do_" + deed[0])(*deed[1:])

    def do_board(self, man, to):
        if self.men[man][0] not in ("grass", "aside") or self.level(man) == to:
            return False
        self.aims[man] = (to, self.made)
        return True

    def do_aside(self, man):
        if self.men[man][0] != "rod":
            return False
        self.aims[man] = (self.level(man), self.made)
        return True

    def do_couple(self, number, yes):
        if yes is (number not in self.loose):
            return False
        if yes:
            self.loose.remove(number)
        else:
            self.loose.append(number)
        return True

    def do_cock(self, number, amount):
        if number == 0 or self.held[number] < amount:
            return False
        for _ in range(amount):
            self.held[number] -= 1
            self.held[number - 1] += 1
            self.let[number] += 1
        return True

    def do_stoke(self, amount):
        if self.mine[3] is None:
            return False
        self.stoke(amount)
        return True

    def stoke(self, amount):
        self.given += amount
        self.steam += amount
        while self.steam > self.mine[3][0]:
            self.steam -= 1
            self.over += 1

    def do_mend(self, number):
        if number in self.mended:
            return False
        self.mended.append(number)
        return True

    def do_bell(self):
        for man, place in enumerate(self.men):
            if place[0] not in ("grass", "lost"):
                self.aims[man] = (0, self.made)
        return True

    def there(self, kind):
        """The FAULTS of this kind that are there."""
        return [
            fault for at, fault in enumerate(self.faults)
            if fault[0] == kind and at not in self.mended and self.made >= fault[-1]]

    def go(self):
        """The rest behind its DEEDS."""
        broken = [fault[1] for fault in self.there("platform")]
        play = RestPlay(self.mine[0], self.made, self.moved, (self.men, self.aims), broken)
        ready = play.one_and_two().three_and_four().crowd()
        self.men, self.aims = list(ready[0]), list(ready[1])
        leaks = [0] * len(self.held)
        for _, number, amount, _ in self.there("valve"):
            leaks[number] += amount
        brought = WaterPlay(self.mine[1], self.held).lift(1 - self.made % 2, self.loose, leaks)
        weight = weight_by_hand(self.mine[1], brought)
        self.moved = self.mine[3] is None or weight <= self.steam
        springs = [cistern[2] for cistern in self.mine[1]]
        for _, number, more, _ in self.there("spring"):
            springs[number] += more
        self.outs.append(0)
        if self.moved:
            self.lift(brought)
        if self.rest % 2 == 1:
            for at, amount in enumerate(springs):
                self.held[at] += amount
                self.came[at] += amount
        self.spill()
        if self.moved:
            self.carry()
            self.made += 1
        if self.mine[3] is not None:
            if self.moved:
                self.steam -= weight
                self.spent += weight
            self.stoke(self.mine[3][2][self.rest % len(self.mine[3][2])])
        self.soak()
        self.rest += 1
        self.rows.append(self.standing())

    def lift(self, brought):
        for at, amount in enumerate(brought):
            self.held[at] -= amount
            self.lifted[at] += amount
            if at + 1 < len(brought):
                self.held[at + 1] += amount
            else:
                self.outs[-1] += amount

    def spill(self):
        for at in reversed(range(1, len(self.held))):
            while self.held[at] > self.mine[1][at][1]:
                self.held[at] -= 1
                self.held[at - 1] += 1
                self.spilt[at] += 1

    def carry(self):
        for man, place in enumerate(self.men):
            if place[0] == "rod":
                down = place[1] == self.made % 2
                self.men[man] = ("rod", place[1], place[2] + (1 if down else -1))
                self.man_ways[man][down] += 1
                self.stride_ways[place[2] - (0 if down else 1)][down] += 1

    def soak(self):
        deep = self.mine[0][0]
        for man, place in enumerate(self.men):
            if place[0] in ("rod", "aside") and self.level(man) > 0:
                if self.held[0] >= self.mine[2] * (deep - self.level(man) + 1):
                    self.drops.append((man, self.level(man)))
                    self.men[man], self.aims[man] = LOST, None


def first_by_hand(mine, book):
    """The first STANDING."""
    men = tuple([GRASS if ride[0] == 0 else aside(ride[0]) for ride in book])
    steam = 0 if mine[3] is None else mine[3][1]
    return (0, 0, (0,) * len(mine[1]), steam, men, tuple([ride[1:] for ride in book]), (), (), True)


def play_by_hand(run):
    """The MinePlay at the end of a RUN; None if a DEED of one of its rests cannot be done."""
    mine, book, faults, told, many = run
    play = MinePlay(mine, faults, first_by_hand(mine, book))
    return play_on_by_hand(play, told, many)


def play_on_by_hand(play, told, many):
    """The MinePlay so many rests later; None if a DEED of one of them cannot be done."""
    for _ in range(many):
        for rest, deed in told:
            if rest == play.rest and not play.deed(deed):
                return None
        play.go()
    return play


def random_engine(dice):
    room = dice.randint(0, dice.choice((6, 15, 40)))
    return (room, dice.randint(0, room), tuple([dice.randint(0, dice.choice((2, 9, 20))) for _ in range(dice.randint(1, 4))]))


def random_staff(dice, most=6, last=8, engines=0.5, per=None):
    """A MINE and a BOOK whose men have room where they begin."""
    deep = dice.randint(2, 6)
    rooms = (0,) + tuple([dice.randint(0, 3) for _ in range(deep)])
    mine = (
        (deep, dice.random() < 0.5, rooms), random_waters(dice, deep, 4, dice.choice((2, 5))),
        per or dice.choice((1, 3, 9, 30)), random_engine(dice) if dice.random() < engines else None)
    book = []
    for ride in random_book(dice, deep, dice.randint(0, most), last):
        if ride[0] == 0 or [own[0] for own in book].count(ride[0]) < rooms[ride[0]]:
            book.append(ride)
    return mine, tuple(book)


def random_fault(dice, mine, last):
    since = dice.randint(0, last)
    kind = dice.choice(("valve", "platform", "spring"))
    if kind == "platform":
        return (kind, dice.choice(platforms(mine[0])), since)
    return (kind, dice.randrange(len(mine[1])), dice.randint(1, 3), since)


def random_faults(dice, mine, most=3, last=8):
    return tuple(sorted({random_fault(dice, mine, last) for _ in range(dice.randint(0, most))}))


def random_deed(dice, mine, book, faults):
    """A DEED that names what is there, whether it can be done or not; mostly of men if there are any."""
    deep, cisterns = mine[0][0], len(mine[1])
    deeds = [
        ("couple", dice.randrange(cisterns), dice.random() < 0.5), ("cock", dice.randrange(cisterns), dice.randint(1, 3)),
        ("stoke", dice.randint(1, 9)), ("bell",)]
    if book:
        man = dice.randrange(len(book))
        deeds += [("board", man, dice.randint(0, deep)), ("aside", man)] * 2
    if faults:
        deeds += [("mend", dice.randrange(len(faults)))]
    return dice.choice(deeds)


def random_told(dice, mine, book, faults, many, rate=0.4):
    """Told DEEDS all of which can be done when their rests come."""
    play, told = MinePlay(mine, faults, first_by_hand(mine, book)), []
    for rest in range(many):
        while dice.random() < rate:
            deed = random_deed(dice, mine, book, faults)
            if play.deed(deed):
                told.append((rest, deed))
        play.go()
    return tuple(told)


def random_run(dice, most_rests=14, **named):
    """A RUN all of whose DEEDS can be done."""
    mine, book = random_staff(dice, **named)
    faults, many = random_faults(dice, mine), dice.randint(0, most_rests)
    told = random_told(dice, mine, book, faults, many)
    return (mine, book, faults, told, many)
