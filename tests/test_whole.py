"""[2], [29], and what joins several sections of the document."""

import importlib
import inspect
import unittest

from helpers import dice_of, random_mine, random_waters, same, shaft_of
from manrods import errors
from manrods.accounts import ledger, raised, steam_book, water_sum
from manrods.bells import all_saved
from manrods.board import Board
from manrods.broken import bars_of, first_barred
from manrods.cuts import growth, is_roomy, out_far
from manrods.desk import desk
from manrods.drowns import drown_rests
from manrods.engines import first_lack, lone_rows, missed_strokes
from manrods.faults import dent_of, dents, is_calm
from manrods.judge import is_so, paper
from manrods.lasts import comes_up, lasts_of, made_row, slots_of
from manrods.menruns import crowd_far, crowd_rows, day_round
from manrods.mines import adit_of, end_standing, home_in, is_run, lost_in, moved_in, rests_of, with_bell
from manrods.rides import end_of
from manrods.rounds import adit_far, drowned_from, far_standing, for_good, last_place, round_of
from manrods.told import leaky_row, sums_told
from manrods.texts import run_by, run_text
from manrods.waters import adit_row, drowned_levels, held_rows
from mineplay import random_run
from test_desk import indented, words_of
from test_faults import random_calm

INTERFACE = {
    "shafts": (
        "is_shaft(thing); is_platform(thing, shaft); platforms(shaft); rising_rod(made); falling_rod(made); "
        "faced_level(platform, made); facing_platform(shaft, rod, level, made); level_behind(rod, level, made); "
        "riser_platform(shaft, level, made); sinker_platform(shaft, level, made); stride_of(platform); "
        "stride_platforms(shaft, stride); goes_with(platform, made)"),
    "rides": (
        "is_ride(thing, shaft); is_book(thing, shaft); is_riser(ride); strokes_of(ride); mark_of(ride, board); "
        "board_of(ride, mark); colour_of(mark); end_of(ride, board); level_at(ride, board, made); platform_at(shaft, "
        "ride, board, made); ridden(shaft, ride, board); passes(ride, stride); first_marks(book); later_book(book, "
        "many); turned_book(book)"),
    "meetings": (
        "meeting(ride, other); passing(ride, other); clash(ride, other); meetings(book); clashes(book); web(book); "
        "meeting_gaps(ride, other); stream_meetings(stream, other)"),
    "dances": (
        "is_lane(shaft, thing); lane_behind(shaft, lane, colour, made); lane_stays(shaft, lane); lane_end(shaft, lane, "
        "colour, made); fates(shaft, book); dance_rows(shaft, book); nobody_barred(shaft, book); is_bar(shaft, book, "
        "thing); first_bar(shaft, book)"),
    "waits": (
        "is_waits(thing, book); waited_book(book, waits); hinder(shaft, ride, other); is_free(shaft, book); "
        "companies(shaft, book); free_ready(shaft, book, ride); colour_sum(shaft, book); least_waits(shaft, book)"),
    "rests": (
        "is_crowd(thing, shaft, made); first_crowd(book); wanted(shaft, made, crowd, man); ready_crowd(shaft, made, "
        "fresh, crowd, broken); carried(made, crowd); soaked(crowd, top); crowd_behind(shaft, made, fresh, crowd, "
        "broken, moved, top); barred(shaft, made, fresh, crowd, broken)"),
    "menruns": (
        "is_day(thing, shaft, book); made_behind(day, many); crowd_rows(shaft, book, day, many); crowd_far(shaft, book, "
        "day, many); day_round(shaft, book, day); comes(shaft, book, day, man, many); all_come(shaft, book, day, many); "
        "lost_by(shaft, book, day, many); barred_rows(shaft, book, day, many); late_by(shaft, book, day, many)"),
    "changes": (
        "is_change(thing, shaft); is_plan(thing, shaft, change); book_end(book); wide_end(change); level_end(level, up, "
        "down); least_plan(shaft, change); in_turn(shaft, change, order); staged_ends(shaft, book, stages); "
        "fewest_stages(shaft, book)"),
    "waters": (
        "is_waters(deep, thing); is_held(waters, thing); dry_held(waters); brings(waters, held, made, loose, leaks); "
        "behind_rest(waters, held, rest, made, moved, loose, leaks); held_rows(waters, held, many); adit_row(waters, "
        "held, many); behind_swing(waters, held); drowned_levels(deep, per, held); way_out(waters, number)"),
    "cuts": (
        "excesses(waters); is_roomy(waters); is_bounded(waters); growth(waters); greatest_cut(waters); is_cut(waters, "
        "thing); flow_through(waters); is_flow(waters, thing); outflow(waters); filled(waters); held_far(waters, "
        "swings); out_far(waters, swings); swings_to(waters, least)"),
    "swapped": (
        "is_flight(thing); narrow_of(flight); lag_of(flight); given_row(flight, comes, swings); given_in_all(flight, "
        "comes, swings); least_rooms(flight, comes); gives_alike(flight, other); parting_comes(flight, other); "
        "is_parting_comes(flight, other, thing); flights_of(waters); measures_exchanged(waters, one, other); "
        "may_exchange(waters, one, other)"),
    "drowns": (
        "drown_rest(waters, per, level); drown_rests(waters, per); driest(waters, per); dam_of(waters, per, level); "
        "is_dam(waters, per, level, thing); lift_for(waters, per, level, number); cheapest_lift(waters, per, level); "
        "spring_for(waters, per, level, number); room_for(waters, per, level, number)"),
    "engines": (
        "stroke_weight(mine, held, made, loose, leaks); is_stroke_made(mine, held, made, steam, loose, leaks); "
        "greatest_weights(mine); steam_behind(mine, rest, steam, spent); lone_rows(mine, many); missed_strokes(mine, "
        "many); weights_ahead(mine, many); first_lack(mine, many); is_lack(mine, many, thing); least_room(mine, many); "
        "least_more(mine, many)"),
    "lasts": (
        "made_row(mine, many); wet_from(mine, level, many); lasts_of(mine, many); last_slots(mine, many); "
        "comes_up(mine, level, slot, many); flood_of(mine, level, slot, many); is_flood(mine, level, slot, many, "
        "thing); slots_of(mine, bars, level, ready, many); last_trip(mine, level, stay, many)"),
    "bells": (
        "is_lasts(thing, deep); are_bars(thing, deep); is_muster(thing, deep); leads(lasts, bars, level, end, slot); "
        "slots_left(lasts, bars, level, first); all_saved(lasts, bars, muster); saving(lasts, bars, muster); lot(lasts, "
        "bars, muster); is_saving(lasts, bars, muster, thing); is_lot(lasts, bars, muster, thing); rescue(lasts, bars, "
        "muster); most_saved(lasts, bars, muster); depth_counts(lasts, bars, levels, ready); last_bell(lasts, bars, "
        "levels)"),
    "broken": (
        "are_breaks(thing, deep); bars_of(breaks); first_barred(shaft, breaks, ride, board); up_at(lasts, bars, asides, "
        "man); is_climb(lasts, bars, asides, man, thing); most_up(lasts, bars, asides, muster); climbs(lasts, bars, "
        "asides, muster); are_climbs(lasts, bars, asides, muster, thing); worst_platforms(lasts, breaks, muster, "
        "since); least_mends(lasts, breaks, muster)"),
    "mines": (
        "is_mine(thing); are_faults(mine, thing); is_run(thing); is_standing(mine, book, faults, thing); "
        "first_standing(mine, book); can_do(mine, faults, standing, deed); rest_done(mine, faults, standing, deeds); "
        "rests_of(run); end_standing(run); adit_of(run); moved_in(run); home_in(run); lost_in(run); with_bell(run, "
        "rest); bells_that_save(run)"),
    "accounts": (
        "water_book(run); water_sum(run); raised(run); fallen(run); steam_book(run); men_book(run); stride_book(run); "
        "ledger(run); ledger_on(mine, faults, standing, told, many)"),
    "rounds": (
        "round_of(mine, book, faults); is_round(mine, book, faults, thing); far_standing(mine, book, faults, rest); "
        "adit_far(mine, book, faults, rest); drowned_from(mine, book, faults, level); for_good(mine, book, faults); "
        "last_place(mine, book, faults, man)"),
    "faults": (
        "valves_at(mine, faults, made); springs_at(mine, faults, made); broken_at(mine, faults, made); dents(mine, "
        "book, faults, number, many); gauge_felt(mine, book, faults, number, many); taken_by(mine, book, faults, "
        "number, many); is_calm(mine); dent_of(mine, fault); twins_of(mine, fault)"),
    "told": (
        "is_easy(waters); leaky_row(waters, leak, many); leaky_held(waters, leak, many); sums_told(waters, row); "
        "fits(waters, row, most, leaks); is_fit(waters, row, most, leaks, thing); refusal(waters, row, most, leaks); "
        "is_refusal(waters, row, most, leaks, thing); best_gauge(waters, leaks, gauges); parting_gauge(waters, leak, "
        "other_leak, many); frames_alike(waters, other)"),
    "judge": (
        "is_claim(thing); is_so(claim); paper(claim); is_paper_for(claim, thing); is_paper_against(claim, thing); "
        "verdicts(claims, things); comes_of(claim, claims); first_false(claims)"),
    "texts": (
        "mine_text(mine); run_text(run); ride_text(ride); fault_text(fault); deed_text(deed); ride_by(text); "
        "fault_by(text); deed_by(text); mine_by(text); run_by(text)"),
    "desk": (
        "desk(text); is_request(thing)"),
}

BOARD = (
    "board(man, to); aside(man); couple(number, yes); cock(number, amount); stoke(amount); mend(number); bell(); rests(many); undo(); redo(); "
    "standing(); told(); run(); out(); home(); lost(); waiting(); home_ahead(many); effect(deed, many); twin()")
CALM = ((), (), True)


def rows_of(text):
    return [tuple(row.rstrip(")").split("(")) for row in text.split("; ")]


class Interface(unittest.TestCase):

    def test_functions(self):
        for file, text in INTERFACE.items():
            module = importlib.import_module("manrods." + file)
            for name, arguments in rows_of(text):
                call = getattr(module, name)
                self.assertTrue(inspect.isfunction(call), name)
                self.assertEqual(call.__module__, "manrods." + file, name)
                self.assertEqual(", ".join(inspect.signature(call).parameters), arguments, name)
                self.assertEqual({part.kind for part in inspect.signature(call).parameters.values()}, {inspect.Parameter.POSITIONAL_OR_KEYWORD})

    def test_board(self):
        self.assertEqual(Board.__module__, "manrods.board")
        self.assertEqual(", ".join(inspect.signature(Board).parameters), "mine, book, faults")
        for name, arguments in rows_of(BOARD):
            self.assertIn(name, vars(Board))
            given = list(inspect.signature(vars(Board)[name]).parameters)
            self.assertEqual(", ".join(given[1:]), arguments, name)

    def test_errors(self):
        for name, base in (
                ("NoPlace", LookupError), ("NothingDone", LookupError), ("BadLine", ValueError), ("CanNot", ValueError), ("TooMuch", ValueError),
                ("Unfit", ValueError)):
            self.assertEqual(getattr(errors, name).__bases__, (base,))
            self.assertEqual(getattr(errors, name).__module__, "manrods.errors")

    def test_all_things(self):
        """Each function that is passed a thing alone, or beside what it is for, takes whatever value."""
        deep = ()
        for _ in range(100):
            deep = (deep,)
        long = (0,) * 10 ** 5
        mine = ((3, True, (0, 9, 9, 9)), ((3, 0, 1, 2, 0),), 9, None)
        given = {
            "shaft": mine[0], "book": ((2, 0, 0),), "made": 2, "change": ((), ()), "deep": 3, "waters": mine[1], "flight": ((1, 0),),
            "other": ((1, 1),), "per": 9, "level": 2, "mine": mine, "many": 3, "slot": 2, "lasts": (9, 9, 9), "bars": (), "muster": ((1, 0),),
            "asides": (1,), "man": (1, 0), "faults": (), "row": (0, 1), "most": 1, "leaks": (None,), "claim": ("steam", mine, 3)}
        count = 0
        for file, text in INTERFACE.items():
            for name, arguments in rows_of(text):
                words = arguments.split(", ")
                if "thing" not in words:
                    continue
                count += 1
                call = getattr(importlib.import_module("manrods." + file), name)
                if name == "is_waits":
                    given["book"] = ((2, 0, 0),) * 3
                for thing in (None, True, -1, 10 ** 40, "", "undo", deep, [deep], long, list(long), (long, long), ((), [True]), "x" * 10 ** 5):
                    found = call(**{word: thing if word == "thing" else given[word] for word in words})
                    self.assertIs(type(found), bool, (name, found))
        self.assertGreater(count, 30)


class OneRun(unittest.TestCase):

    def test_by_text_on_a_board_on_a_desk(self):
        dice = dice_of("one run")
        for _ in range(120):
            run = random_run(dice)
            mine, book, faults, told, many = run
            self.assertTrue(same(run_by(run_text(run)), run))
            board = Board(mine, book, faults)
            for rest in range(many):
                for deed in [deed for own, deed in told if own == rest]:
                    getattr(board, deed[0])(*deed[1:])
                board.rests(1)
            last = rests_of(run)[-1]
            self.assertTrue(same(board.standing(), last))
            self.assertEqual((board.out(), board.run()), (sum(adit_of(run)), run))
            self.assertEqual(board.home(), tuple([man for man, place in enumerate(last[4]) if place == ("grass",)]))
            self.assertEqual(board.lost(), tuple(sorted([man for _, man in lost_in(run)])))
            replies = desk(indented(run_text(run)) + "\nheld\nout\nhome\nlost\nwaiting")
            self.assertEqual(replies, [
                "done", words_of(last[2]), str(water_sum(run)[1]), words_of(board.home()), words_of(board.lost()), words_of(board.waiting())])
            self.assertEqual(is_so(("home", run)), len(board.home()) == len(book))
            ahead = dict([(man, rests) for rests, man in home_in(run)])
            if not told:
                self.assertEqual(Board(mine, book, faults).home_ahead(many), tuple([ahead.get(man) for man in range(len(book))]))

    def test_without_deeds(self):
        dice = dice_of("without deeds")
        for _ in range(40):
            mine, book, faults, _, many = random_run(dice, 12, per=dice.choice((1, 3)))
            run = (mine, book, faults, (), many)
            try:
                self.assertTrue(same(far_standing(mine, book, faults, many), end_standing(run)))
            except errors.TooMuch:
                continue
            self.assertEqual(adit_far(mine, book, faults, many), sum(adit_of(run)))
            self.assertEqual(is_so(("again", mine, book, faults)), round_of(mine, book, faults)[2] == 0)
            self.assertEqual(paper(("again", mine, book, faults)), round_of(mine, book, faults))


class Water(unittest.TestCase):

    def test_lone_runs(self):
        dice = dice_of("lone")
        for _ in range(120):
            mine = random_mine(dice)
            run = (mine, (), (), (), 30)
            rows = rests_of(run)
            self.assertEqual(lone_rows(mine, 30), [row[1:4] for row in rows])
            self.assertEqual(made_row(mine, 30), tuple([row[1] for row in rows]))
            missed = tuple([rest for rest, moved in enumerate(moved_in(run)) if not moved])
            self.assertEqual(missed_strokes(mine, 30), missed)
            self.assertEqual(first_lack(mine, 30) is None, missed == ())
            self.assertEqual(is_so(("steam", mine, 30)), missed == ())
            if mine[3] is not None:
                self.assertEqual(steam_book(run)[1], raised(run))

    def test_plain_runs(self):
        dice = dice_of("plain")
        checked = 0
        for _ in range(150):
            deep = dice.randint(2, 5)
            waters = random_waters(dice, deep, 4, 4)
            mine = (shaft_of(deep, True), waters, dice.choice((1, 2, 5)), None)
            dry = (0,) * len(waters)
            run = (mine, (), (), (), 30)
            self.assertEqual(adit_of(run), adit_row(waters, dry, 30))
            self.assertEqual([row[2] for row in rests_of(run)], held_rows(waters, dry, 30))
            try:
                found = round_of(mine, (), ())
            except errors.TooMuch:
                continue
            checked += 1
            self.assertEqual(tuple([drowned_from(mine, (), (), level) for level in range(1, deep + 1)]), drown_rests(waters, mine[2]))
            if is_roomy(waters):
                self.assertEqual(found[2] * 2, growth(waters) * found[1])
            self.assertEqual(adit_far(mine, (), (), 2 * 10 ** 9), out_far(waters, 10 ** 9))
            if found[2] > 0:
                self.assertEqual(for_good(mine, (), ()), tuple(range(1, deep + 1)))
            far = far_standing(mine, (), (), 10 ** 12)
            # In even rests the sump never rises, so the least is seen behind some rests of a ROUND.
            rounds = [far_standing(mine, (), (), 10 ** 12 + more)[2] for more in range(found[1])]
            self.assertEqual(for_good(mine, (), ()), drowned_levels(deep, mine[2], min(rounds)))
            self.assertIn(far[2], rounds)
        self.assertGreater(checked, 100)

    def test_leaks(self):
        dice = dice_of("leaks")
        for _ in range(80):
            mine = random_calm(dice)[:3] + (None,)
            leak = ("valve", dice.randrange(len(mine[1])), dice.randint(1, 2), dice.randint(0, 8))
            self.assertEqual(adit_of((mine, (), (leak,), (), 30)), leaky_row(mine[1], leak, 30))
            if is_calm(mine):
                told = sums_told(mine[1], leaky_row(mine[1], None, 30))
                self.assertEqual([pair[1] for pair in told], [sum([mine[1][at][2] for at in lot]) for lot, _ in told])
                try:
                    rest, amount = dent_of(mine, leak)
                except errors.Unfit:
                    continue
                self.assertEqual(dents(mine, (), (leak,), 0, 40), [(rest, -amount)])


class Men(unittest.TestCase):

    def test_as_days_have_it(self):
        """Where nothing drowns, breaks or is missed, a run of a mine is one of a DAY."""
        dice = dice_of("days")
        for _ in range(60):
            mine, book, _, _, _ = random_run(dice, 0)
            mine = (*mine[:2], 10 ** 6, None)
            day = ((*CALM, mine[0][0] + 1),)
            rows = [row[4:6] for row in rests_of((mine, book, (), (), 25))]
            self.assertEqual(rows, crowd_rows(mine[0], book, day, 25))
            still = (mine[0], ((mine[0][0], 0, 0, 1, 0),), 1, None)
            self.assertEqual(far_standing(still, book, (), 10 ** 12)[4:6], crowd_far(mine[0], book, day, 10 ** 12))
            lead, length, growth = round_of(still, book, ())
            many, own = day_round(mine[0], book, day)
            self.assertEqual((length, growth), (own, 0))
            # By how much a ready is above made is seen there, even of one who never boards.
            self.assertLessEqual(lead, many)
            if all([ride[2] == 0 for ride in book]):
                self.assertEqual(max(1, lead), many)

    def test_slots(self):
        dice = dice_of("slots")
        kinds = {True: 0, False: 0}
        for _ in range(150):
            mine = random_mine(dice)
            mine = (shaft_of(mine[0][0], True, 9),) + mine[1:]
            level, many = dice.randint(1, mine[0][0]), 24
            mades = made_row(mine, many)
            for slot in range(level, level + 9):
                run = (mine, ((level, 0, slot - level),), (), (), many)
                found = comes_up(mine, level, slot, many)
                up = [rests for rests, row in enumerate(rests_of(run)) if row[4][0][-1] == 0 or row[4][0] == ("grass",)]
                # He faces level 0 behind the rest at which made comes to slot, and steps off at the next one.
                self.assertEqual(found, up != [] and mades[many] >= slot, (run, found))
                self.assertEqual(slot in slots_of(mine, (), level, slot - level, many), found)
                kinds[found] += 1
        self.assertGreater(min(kinds.values()), 100)

    def test_saved_by_slots(self):
        """Where each has a slot of his own that he can take, and boards with it, all come up."""
        dice = dice_of("saved")
        for _ in range(60):
            mine = random_mine(dice, 4, 3, False)
            mine = (shaft_of(mine[0][0], True, 9),) + mine[1:]
            deep, many = mine[0][0], 40
            lasts = lasts_of(mine, many)
            muster = tuple([(dice.randint(1, deep), dice.randint(0, 3)) for _ in range(3)])
            if not all_saved(lasts, (), muster):
                continue
            slots = paper(("saved", lasts, (), muster))
            book = tuple([(level, 0, slot - level) for (level, _), slot in zip(muster, slots)])
            if max(slots) >= many:
                continue
            found = end_standing((mine, book, (), (), many + 1))[4]
            self.assertEqual(found, (("grass",),) * 3, (mine, muster))

    def test_broken_platforms(self):
        dice = dice_of("broken")
        kinds = {}
        for _ in range(250):
            deep = dice.randint(2, 5)
            shaft = shaft_of(deep, True, 9)
            mine = (shaft, ((deep, 0, 0, 1, 0),), 1, None)
            start, to = dice.sample(range(deep + 1), 2)
            ride = (start, to, dice.randint(0, 4))
            level = dice.randint(0, deep - 1)
            breaks = (((0, level), dice.randint(0, 6)),)
            faults = tuple([("platform", platform, since) for platform, since in breaks])
            run = (mine, (ride,), faults, (), 20)
            rows = rests_of(run)
            held = first_barred(shaft, breaks, ride, ride[2])
            places = [row[4][0] for row in rows]
            if held is None:
                end = end_of(ride, ride[2])
                self.assertNotIn(("rod",), [place[:1] for place in places[end + 1:]])
                self.assertEqual(places[end][-1], to)
            elif held[2]:
                self.assertEqual(lost_in(run), [(held[0] + 1, 0)])
            else:
                # He stays where he is at this rest, or is carried back.
                self.assertNotEqual(places[held[0] + 1][-1], held[1] + (1 if to > start else -1))
            kinds[held if held is None else held[2]] = True
            self.assertEqual(len(bars_of(breaks)), 1)
        self.assertEqual(len(kinds), 3)

    def test_last_places(self):
        dice = dice_of("last places")
        for _ in range(60):
            mine, book, faults, _, _ = random_run(dice, 0)
            try:
                lead, length, _ = round_of(mine, book, faults)
            except errors.TooMuch:
                continue
            for man in range(len(book)):
                place = last_place(mine, book, faults, man)
                rows = [far_standing(mine, book, faults, 10 ** 9 + more)[4][man] for more in range(length)]
                self.assertEqual(place is not None, len(set(rows)) == 1)
                self.assertIn(place, (None, *rows))
            self.assertGreaterEqual(lead, 0)

    def test_bells_leave_the_water_as_it_is(self):
        dice = dice_of("bells")
        for _ in range(60):
            run = random_run(dice)
            for rest in range(0, run[4], 3):
                rung = with_bell(run, rest)
                self.assertIs(is_run(rung), True)
                try:
                    self.assertEqual(ledger(rung)[:6], ledger(run)[:6])
                except errors.Unfit:
                    continue


if __name__ == "__main__":
    unittest.main()
