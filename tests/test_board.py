"""[27]: a Board."""

import copy
import unittest

from helpers import check_manners, dice_of, listed, same
from manrods.board import Board
from manrods.errors import NothingDone, Unfit
from manrods.mines import end_standing, is_run, rest_done
from mineplay import GRASS, LOST, MinePlay, first_by_hand, random_deed, random_faults, random_run, random_staff

PIT = ((3, True, (0, 2, 2, 2)), ((3, 0, 1, 2, 0),), 9, None)
MILL = ((4, False, (0, 1, 2, 3, 4)), ((4, 0, 3, 3, 0), (2, 6, 1, 4, 1)), 9, (10, 4, (5, 8)))
BOOK = ((4, 0, 0), (0, 4, 2), (2, 1, 3))
FAULTS = (("platform", (1, 4), 9), ("spring", 1, 2, 3), ("valve", 0, 1, 5))
METHODS = {"board": 2, "aside": 1, "couple": 2, "cock": 2, "stoke": 1, "mend": 1, "bell": 0}


def places(board):
    return board.standing()[4]


class Model:
    """A Board by what was done, all of it being done anew for each look."""

    def __init__(self, mine, book, faults):
        self.mine, self.book, self.faults = mine, book, faults
        self.done, self.undone = [], []

    def play(self):
        """The MinePlay now, and the told DEEDS that led there."""
        play, told = MinePlay(self.mine, self.faults, first_by_hand(self.mine, self.book)), []
        for name, what in self.done:
            if name == "rests":
                for _ in range(what):
                    play.go()
            else:
                assert play.deed(what)
                told.append((play.rest, what))
        return play, tuple(told)

    def names_what_is_there(self, deed):
        return is_run((self.mine, self.book, self.faults, ((0, deed),), 0))

    def deed(self, deed):
        """Whether it was done."""
        if not self.names_what_is_there(deed) or not self.play()[0].deed(deed):
            return False
        self.add(deed[0], deed)
        return True

    def add(self, name, what):
        self.done.append((name, what))
        self.undone = []

    def looks(self):
        play, told = self.play()
        men = range(len(self.book))
        return {
            "standing": play.standing(), "told": told, "out": sum(play.outs),
            "run": (self.mine, self.book, self.faults, tuple([pair for pair in told if pair[0] < play.rest]), play.rest),
            "home": tuple([man for man in men if play.men[man] == GRASS]),
            "lost": tuple([man for man in men if play.men[man] == LOST]),
            "waiting": tuple([man for man in men if play.men[man][0] in ("aside", "grass") and play.aims[man] is not None])}

    def home_ahead(self, many, deed=None):
        play = self.play()[0]
        if deed is not None and not (self.names_what_is_there(deed) and play.deed(deed)):
            return None
        found = [None] * len(self.book)
        for rests in range(many + 1):
            for man, place in enumerate(play.men):
                if place == GRASS and found[man] is None:
                    found[man] = rests
            play.go()
        return tuple(found)


def looks_of(board):
    """All looks that take nothing, by their names."""
    return {name: getattr(board, name)() for name in ("standing", "told", "out", "run", "home", "lost", "waiting")}


def any_deed(dice, mine, book, faults):
    """A DEED that mostly names what is there."""
    deed = random_deed(dice, mine, book, faults)
    if dice.random() < 0.15:
        at = dice.randrange(1, len(deed)) if len(deed) > 1 else None
        if at is not None and type(deed[at]) is int:
            deed = deed[:at] + (dice.choice((-1, 7, 40)),) + deed[at + 1:]
    return deed


class Against(unittest.TestCase):

    def test_against_model(self):
        dice = dice_of("board")
        counts = {}
        for _ in range(350):
            mine, book = random_staff(dice, most=4)
            faults = random_faults(dice, mine)
            board, model = Board(mine, book, faults), Model(mine, book, faults)
            for _ in range(dice.randint(1, 18)):
                self.step(dice, board, model, counts)
                self.assertTrue(same(looks_of(board), model.looks()), model.done)
                if dice.random() < 0.3:
                    self.look_ahead(dice, board, model, counts)
                if dice.random() < 0.1:
                    board = board.twin()
        for word in ("undo", "redo", "no undo", "no redo", "rests", "effect", "no effect", *METHODS):
            self.assertGreater(counts.get(word, 0), 5, word)
        for word in set(METHODS) - {"bell"}:
            self.assertGreater(counts.get("no " + word, 0), 5, word)

    def step(self, dice, board, model, counts):
        word = dice.choice(("deed", "deed", "deed", "rests", "undo", "redo"))
        if word == "rests":
            many = dice.randint(1, 4)
            self.assertIsNone(board.rests(many))
            model.add("rests", many)
        elif word == "deed":
            deed = any_deed(dice, model.mine, model.book, model.faults)
            word = deed[0]
            call = getattr(board, deed[0])
            if model.deed(deed):
                self.assertIsNone(call(*deed[1:]))
            else:
                word = "no " + word
                with self.assertRaises(Unfit):
                    call(*deed[1:])
        else:
            taken, given = (model.done, model.undone) if word == "undo" else (model.undone, model.done)
            call = getattr(board, word)
            if taken:
                given.append(taken.pop())
                self.assertTrue(same(call(), given[-1][0]))
            else:
                word = "no " + word
                with self.assertRaises(NothingDone):
                    call()
        counts[word] = counts.get(word, 0) + 1

    def look_ahead(self, dice, board, model, counts):
        many, deed = dice.randint(0, 9), any_deed(dice, model.mine, model.book, model.faults)
        ahead, tried = model.home_ahead(many), model.home_ahead(many, deed)
        self.assertTrue(same(board.home_ahead(many), ahead))
        if tried is None:
            with self.assertRaises(Unfit):
                board.effect(deed, many)
        else:
            self.assertTrue(same(board.effect(deed, many), (ahead, tried)))
            self.assertTrue(same(board.effect(listed(deed), many), (ahead, tried)))
        word = "no effect" if tried is None else "effect"
        counts[word] = counts.get(word, 0) + 1
        self.assertTrue(same(looks_of(board), model.looks()))

    def test_gone_on_with_by_rest_done(self):
        dice = dice_of("beside rest_done")
        for _ in range(60):
            mine, book, faults, told, many = run = random_run(dice)
            board, standing, came_out = Board(mine, book, faults), None, 0
            standing = board.standing()
            for rest in range(many):
                deeds = [deed for own, deed in told if own == rest]
                for deed in deeds:
                    getattr(board, deed[0])(*deed[1:])
                board.rests(1)
                standing, out = rest_done(mine, faults, standing, deeds)
                came_out += out
                self.assertTrue(same((board.standing(), board.out()), (standing, came_out)))
            self.assertTrue(same(board.standing(), end_standing(run)))
            behind = tuple([pair for pair in told if pair[0] < many])
            self.assertTrue(same(board.run(), (mine, book, faults, behind, many)))


class Deeds(unittest.TestCase):

    def fresh(self):
        board = Board(MILL, BOOK, FAULTS)
        board.rests(3)
        board.couple(0, False)
        return board

    def test_what_is_not_there(self):
        board = self.fresh()
        board.undo()
        board.redo()
        kept = looks_of(board)
        for name, arguments in (
                ("board", (3, 0)), ("board", (-1, 0)), ("board", (0, 5)), ("board", (0, -1)), ("aside", (3,)), ("aside", (2,)),
                ("couple", (2, True)), ("couple", (-1, False)), ("couple", (0, False)), ("couple", (1, True)), ("cock", (0, 1)),
                ("cock", (2, 1)), ("cock", (-1, 1)), ("cock", (1, 99)), ("mend", (3,)), ("mend", (-1,)), ("board", (2, 2))):
            with self.assertRaises(Unfit, msg=(name, arguments)):
                getattr(board, name)(*arguments)
            with self.assertRaises(Unfit):
                board.effect((name, *arguments), 3)
            self.assertTrue(same(looks_of(board), kept))
        self.assertEqual(board.undo(), "couple")
        with self.assertRaises(Unfit):
            Board(PIT, (), ()).stoke(1)

    def test_what_raises_leaves_what_was_taken_back(self):
        board = self.fresh()
        self.assertEqual(board.undo(), "couple")
        with self.assertRaises(Unfit):
            board.couple(0, True)
        with self.assertRaises(Unfit):
            board.effect(("mend", 9), 3)
        board.home_ahead(5)
        board.twin().rests(3)
        self.assertEqual(board.redo(), "couple")
        with self.assertRaises(NothingDone):
            board.redo()
        self.assertEqual(board.standing()[6], (0,))

    def test_undo_and_redo_of_each(self):
        for name, arguments in (
                ("board", (2, 4)), ("aside", (0,)), ("couple", (0, False)), ("couple", (1, False)), ("cock", (1, 1)), ("stoke", (3,)),
                ("mend", (2,)), ("bell", ()), ("rests", (2,))):
            board = Board(MILL, BOOK, FAULTS)
            board.rests(2)
            kept = looks_of(board)
            getattr(board, name)(*arguments)
            behind = looks_of(board)
            self.assertFalse(same(kept, behind), name)
            for own in (board, board.twin()):
                self.assertTrue(same(own.undo(), name))
                self.assertTrue(same(looks_of(own), kept))
                self.assertTrue(same(own.redo(), name))
                self.assertTrue(same(looks_of(own), behind))
                with self.assertRaises(NothingDone):
                    own.redo()
                self.assertEqual([own.undo(), own.undo()], [name, "rests"])
                with self.assertRaises(NothingDone):
                    own.undo()
                self.assertTrue(same(looks_of(own), looks_of(Board(MILL, BOOK, FAULTS))))

    def test_redo_is_gone_once_something_is_done(self):
        for name, arguments in (("bell", ()), ("stoke", (1,)), ("rests", (1,)), ("couple", (1, False))):
            board = self.fresh()
            board.undo()
            getattr(board, name)(*arguments)
            with self.assertRaises(NothingDone):
                board.redo()
            self.assertEqual([board.undo(), board.undo()], [name, "rests"])

    def test_behind_those_done_since(self):
        board = Board(MILL, BOOK, FAULTS)
        board.rests(6)
        self.assertEqual(board.standing()[2][1], 6)
        board.cock(1, 4)
        with self.assertRaises(Unfit):
            board.cock(1, 4)
        board.couple(1, False)
        board.couple(1, True)
        self.assertEqual(board.told(), ((6, ("cock", 1, 4)), (6, ("couple", 1, False)), (6, ("couple", 1, True))))
        self.assertEqual(board.run(), (MILL, BOOK, FAULTS, (), 6))
        board.rests(1)
        self.assertEqual(board.run(), (MILL, BOOK, FAULTS, board.told(), 7))
        self.assertEqual(board.standing(), end_standing(board.run()))

    def test_many_rests(self):
        board = Board(PIT, ((2, 0, 0), (1, 3, 990)), ())
        board.rests(1000)
        self.assertEqual((board.standing()[:2], board.home(), board.out()), ((1000, 1000), (0,), 499))
        self.assertEqual(board.undo(), "rests")
        self.assertEqual((board.standing()[:2], board.out()), ((0, 0), 0))
        self.assertEqual(board.home_ahead(1000), (3, None))


class Looks(unittest.TestCase):

    def test_home_ahead(self):
        board = Board(PIT, ((2, 0, 0), (0, 2, 0), (1, 3, 0)), ())
        self.assertEqual([board.home_ahead(many) for many in (0, 2, 3)], [(None, 0, None), (None, 0, None), (3, 0, None)])
        board.rests(3)
        self.assertEqual(board.home_ahead(9), (0, None, None))
        self.assertEqual(board.effect(("bell",), 9), ((0, None, None), (0, 3, 4)))
        self.assertEqual((board.home(), board.waiting(), board.lost()), ((0,), (), ()))

    def test_no_men(self):
        board = Board(PIT, (), ())
        self.assertEqual(looks_of(board), {
            "standing": (0, 0, (0,), 0, (), (), (), (), True), "told": (), "out": 0, "run": (PIT, (), (), (), 0), "home": (), "lost": (),
            "waiting": ()})
        self.assertEqual((board.home_ahead(4), board.effect(("bell",), 4)), ((), ((), ())))

    def test_a_deed_moves_nobody_at_once(self):
        board = Board(PIT, ((2, 0, 0),), ())
        board.rests(1)
        kept = places(board)
        board.bell()
        self.assertEqual(places(board), kept)
        self.assertEqual(board.standing()[5], ((0, 1),))


class Same(unittest.TestCase):

    def test_equal(self):
        one, two = Board(PIT, ((2, 0, 0),), ()), Board(listed(PIT), [[2, 0, 0]], [])
        self.assertTrue(one == two)
        self.assertFalse(one != two)
        one.rests(2)
        self.assertFalse(one == two)
        self.assertTrue(one != two)
        two.rests(1)
        two.rests(1)
        self.assertTrue(one == two)
        # What was told counts only by the STANDING.
        one.couple(0, False)
        one.couple(0, True)
        self.assertTrue(one == two)
        one.bell()
        self.assertFalse(one == two)
        self.assertFalse(one == one.standing())
        self.assertTrue(one != None)  # noqa: E711
        self.assertFalse(one == 0)

    def test_unlike_mines_books_and_faults(self):
        one = Board(PIT, ((2, 0, 0),), ())
        for other in (
                Board(PIT[:2] + (8, None), ((2, 0, 0),), ()), Board(PIT, ((2, 0, 1),), ()), Board(PIT, ((2, 1, 0),), ()),
                Board(PIT, ((2, 0, 0),), (("valve", 0, 1, 900),))):
            self.assertFalse(one == other)
            self.assertTrue(one != other)
        # Called to the same level he stands alike, but his RIDE was another one.
        other = Board(PIT, ((2, 1, 0),), ())
        other.board(0, 0)
        self.assertEqual(other.standing(), one.standing())
        self.assertFalse(one == other)

    def test_twins(self):
        board = Board(MILL, BOOK, FAULTS)
        board.rests(2)
        board.couple(0, False)
        board.stoke(2)
        board.undo()
        mate = board.twin()
        self.assertIsInstance(mate, Board)
        self.assertIsNot(mate, board)
        self.assertTrue(mate == board and same(looks_of(mate), looks_of(board)))
        kept = looks_of(board)
        self.assertEqual([mate.redo(), mate.undo(), mate.undo(), mate.undo()], ["stoke", "stoke", "couple", "rests"])
        mate.bell()
        self.assertTrue(same(looks_of(board), kept))
        self.assertEqual([board.redo(), board.undo(), board.undo()], ["stoke", "stoke", "couple"])
        board.rests(4)
        self.assertEqual(mate.told(), ((0, ("bell",)),))
        with self.assertRaises(NothingDone):
            mate.redo()

    def test_what_is_handed_in_is_copied(self):
        mine, book, faults = listed(MILL), listed(BOOK), listed(FAULTS)
        board = Board(mine, book, faults)
        told = copy.deepcopy(looks_of(board))
        mine[1][0][2] = book[0][2] = faults[0][2] = 77
        mine[2] = 1
        book.append([0, 1, 0])
        del faults[1:]
        self.assertTrue(same(looks_of(board), told))
        board.rests(4)
        own = Board(MILL, BOOK, FAULTS)
        own.rests(4)
        self.assertTrue(board == own)
        self.assertTrue(same(looks_of(board), looks_of(own)))


class Manners(unittest.TestCase):

    def test_names_of_arguments(self):
        one, two = Board(mine=MILL, book=BOOK, faults=FAULTS), Board(MILL, BOOK, FAULTS)
        for name, named in (
                ("rests", {"many": 3}), ("board", {"man": 2, "to": 4}), ("couple", {"number": 1, "yes": False}), ("stoke", {"amount": 2}),
                ("mend", {"number": 1}), ("bell", {}), ("rests", {"many": 2}), ("cock", {"number": 1, "amount": 1}), ("aside", {"man": 0})):
            self.assertIsNone(getattr(one, name)(**named))
            getattr(two, name)(*named.values())
            self.assertTrue(one == two, name)
        self.assertTrue(same(looks_of(one), looks_of(two)))
        for call in (one.home_ahead, two.home_ahead):
            check_manners(self, call, {"many": 6})
        for deed in (("board", 1, 0), ("couple", 1, True), ("mend", 9)):
            check_manners(self, one.effect, {"deed": deed, "many": 6})
        self.assertTrue(one == two)

    def test_methods_of_the_class_itself(self):
        names = (
            "board aside couple cock stoke mend bell rests undo redo standing told run out home lost waiting home_ahead effect twin"
            " __eq__ __init__").split()
        for name in names:
            self.assertIn(name, vars(Board))
        self.assertEqual(Board.__bases__, (object,))


if __name__ == "__main__":
    unittest.main()
