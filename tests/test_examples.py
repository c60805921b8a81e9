"""The examples of the document, as they stand there, sections 4 to 28."""

import unittest

from helpers import run_examples

IMPORTS = (
    ("shafts", "is_shaft is_platform platforms rising_rod falling_rod faced_level facing_platform level_behind"
               " riser_platform sinker_platform stride_of stride_platforms goes_with"),
    ("rides", "is_ride is_book is_riser strokes_of mark_of board_of colour_of end_of level_at platform_at ridden"
              " passes first_marks later_book turned_book"),
    ("meetings", "meeting passing clash meetings clashes web meeting_gaps stream_meetings"),
    ("dances", "is_lane lane_behind lane_stays lane_end fates dance_rows nobody_barred is_bar first_bar"),
    ("waits", "is_waits waited_book hinder is_free companies free_ready colour_sum least_waits"),
    ("rests", "is_crowd first_crowd wanted ready_crowd carried soaked crowd_behind barred"),
    ("menruns", "is_day made_behind crowd_rows crowd_far day_round comes all_come lost_by barred_rows late_by"),
    ("changes", "is_change is_plan book_end wide_end level_end least_plan in_turn staged_ends fewest_stages"),
    ("waters", "is_waters is_held dry_held brings behind_rest held_rows adit_row behind_swing drowned_levels"
               " way_out"),
    ("cuts", "excesses is_roomy is_bounded growth greatest_cut is_cut flow_through is_flow outflow filled held_far"
             " out_far swings_to"),
    ("swapped", "is_flight narrow_of lag_of given_row given_in_all least_rooms gives_alike parting_comes"
                " is_parting_comes flights_of measures_exchanged may_exchange"),
    ("drowns", "drown_rest drown_rests driest dam_of is_dam lift_for cheapest_lift spring_for room_for"),
    ("engines", "stroke_weight is_stroke_made greatest_weights steam_behind lone_rows missed_strokes"
                " weights_ahead first_lack is_lack least_room least_more"),
    ("lasts", "made_row wet_from lasts_of last_slots comes_up flood_of is_flood slots_of last_trip"),
    ("bells", "is_lasts are_bars is_muster leads slots_left all_saved saving lot is_saving is_lot rescue"
              " most_saved depth_counts last_bell"),
    ("broken", "are_breaks bars_of first_barred up_at is_climb most_up climbs are_climbs worst_platforms"
               " least_mends"),
    ("mines", "is_mine are_faults is_run is_standing first_standing can_do rest_done rests_of end_standing"
               " adit_of moved_in home_in lost_in with_bell bells_that_save"),
    ("accounts", "water_book water_sum raised fallen steam_book men_book stride_book ledger ledger_on"),
    ("rounds", "round_of is_round far_standing adit_far drowned_from for_good last_place"),
    ("faults", "valves_at springs_at broken_at dents gauge_felt taken_by is_calm dent_of twins_of"),
    ("told", "is_easy leaky_row leaky_held sums_told fits is_fit refusal is_refusal best_gauge parting_gauge"
               " frames_alike"),
    ("judge", "is_claim is_so paper is_paper_for is_paper_against verdicts comes_of first_false"),
    ("texts", "mine_text run_text ride_text fault_text deed_text ride_by fault_by deed_by mine_by run_by"),
    ("board", "Board"),
    ("desk", "desk is_request"),
)

SECTION_4 = r"""
    >>> shaft = (4, True, (0, 2, 2, 2, 2))
    >>> platforms(shaft)
    ((0, 0), (0, 1), (0, 2), (0, 3), (1, 1), (1, 2), (1, 3), (1, 4))
    >>> rising_rod(0), falling_rod(0), rising_rod(7), faced_level((0, 2), 4), faced_level((0, 2), 5), faced_level((1, 2), 5)
    (1, 0, 0, 2, 3, 1)
    >>> facing_platform(shaft, 0, 3, 1), level_behind(1, 3, 0), level_behind(1, 3, 1)
    ((0, 2), 2, 4)
    >>> riser_platform(shaft, 3, 0), riser_platform(shaft, 3, 1), sinker_platform(shaft, 2, 0), sinker_platform(shaft, 2, 1)
    ((1, 3), (0, 2), (0, 2), (1, 3))
    >>> stride_of((1, 3)), stride_platforms(shaft, 2), goes_with((0, 2), 0), goes_with((0, 2), 1)
    (2, ((0, 2), (1, 3)), 1, -1)
    >>> is_shaft((4, 1, (0, 2, 2, 2, 2))), is_platform((1, 0), shaft)
    (False, False)
    >>> facing_platform(shaft, 0, 0, 1)
    raises NoPlace(place=0)
"""

SECTION_5 = r"""
    >>> up, down = (4, 1, 2), (0, 3, 1)
    >>> is_riser(up), strokes_of(down), mark_of(up, 2), mark_of(down, 1), mark_of((3, 4, 0), 1), board_of(up, 6), colour_of(-3)
    (True, 3, 6, 1, -2, 2, 1)
    >>> end_of(up, 2), [level_at(up, 2, made) for made in (0, 2, 4, 9)], platform_at(shaft, up, 2, 3), platform_at(shaft, up, 2, 5)
    (5, [4, 4, 2, 1], (0, 2), None)
    >>> ridden(shaft, up, 2), ridden(shaft, down, 1)
    ([(1, 4), (0, 2), (1, 2)], [(1, 1), (0, 1), (1, 3)])
    >>> passes(up, 0), passes(up, 3), first_marks((up, down)), later_book((up,), 5), turned_book((up, down))
    (False, True, [6, 1], ((4, 1, 7),), ((1, 4, 5), (3, 0, 4)))
    >>> is_ride((2, 2, 0), shaft), is_book((up, (4, 5, 0)), shaft)
    (False, False)
    >>> board_of(up, 3)
    raises Unfit()
"""

SECTION_6 = r"""
    >>> up, down, late = (4, 0, 0), (0, 4, 0), (0, 4, 1)
    >>> meeting(up, down), passing(up, down), meeting(late, up), passing(late, up)
    ((2, 2), None, None, (2, 1))
    >>> clash(up, (3, 1, 1)), clash((3, 1, 1), (2, 0, 2)), clash((3, 1, 1), (1, 0, 3)), clash(down, late), clash(up, up)
    ((1, 3), (2, 2), None, None, (0, 4))
    >>> meetings((up, down, late)), web((up, down, late)), clashes((up, down, late))
    ([(2, 2, 0, 1)], ((0, 1), (0, 2)), [])
    >>> meeting_gaps(up, down), meeting_gaps((4, 2, 0), (1, 4, 0)), meeting_gaps((2, 0, 0), (3, 4, 0))
    ((-2, 0, 2), (1,), ())
    >>> stream_meetings((4, 0, 0, 2, 10 ** 12), (0, 4, 0, 2, 10 ** 12)), stream_meetings((4, 0, 0, 3, 4), (0, 4, 0, 2, 5))
    (2999999999998, 5)
"""

SECTION_7 = r"""
    >>> narrow, wide, crowd = (4, False, (0,) * 5), (4, True, (0,) * 5), ((4, 0, 0), (0, 4, 0), (4, 0, 2), (4, 0, 3))
    >>> lane_behind(narrow, (4, None, None, 0), 0, 1), lane_behind(wide, (None, 4, 0, None), 0, 2), lane_stays(narrow, (3, 0, 4, 1))
    ((None, 4, 0, None), (None, 0, 4, None), True)
    >>> lane_end(narrow, (4, None, None, 0), 0, 1)
    (2, (None, 4, 0, None))
    >>> fates(narrow, crowd), dance_rows(narrow, crowd), fates(wide, crowd)[2]
    ((('dance', 1, 2), ('dance', 1, 1), ('dance', 2, 3), ('home', 7)), [(0, 1, (1, 0, 2))], ('home', 6))
    >>> first_bar(narrow, crowd), is_bar(narrow, crowd, (2, 0, 10 ** 9 + 1)), is_bar(narrow, crowd, (2, 0, 10 ** 9))
    ((0, 1, 2), True, False)
    >>> fates(narrow, ((4, 0, 0), (0, 4, 0), (4, 0, 1), (0, 4, 1), (3, 1, 9)))[4], first_bar(wide, ((4, 0, 0), (3, 1, 1)))
    (('waits',), (1, 0, 1))
"""

SECTION_8 = r"""
    >>> deep, pair = (6, False, (0, 0, 0, 0, 0, 0, 0)), ((4, 0, 0), (0, 4, 0))
    >>> hinder(narrow, pair[0], pair[1]), hinder(wide, pair[0], pair[1]), is_free(narrow, waited_book(pair, (0, 1))), is_waits((0, -1), pair)
    (True, False, True, False)
    >>> some = ((4, 1, 0), (0, 3, 0), (2, 4, 1), (1, 0, 9))
    >>> companies(narrow, some), companies(wide, some), free_ready(narrow, ((0, 4, 0), (0, 4, 1)), (4, 0, 0))
    ([(0, 1, 2), (3,)], [(0,), (1, 2), (3,)], 4)
    >>> late = ((4, 0, 0), (0, 4, 3), (0, 4, 5), (0, 4, 7), (0, 2, 2))
    >>> colour_sum(narrow, late), least_waits(narrow, late), least_waits(narrow, pair)
    (4, (0, 0, 0, 0, 2), (0, 1))
    >>> six = ((6, 0, 0), (6, 0, 1), (6, 0, 2), (0, 6, 5))
    >>> colour_sum(deep, six), least_waits(deep, six)
    (3, (0, 0, 0, 2))
"""

SECTION_9 = r"""
    >>> narrow, wide = (4, False, (0, 0, 0, 0, 2)), (4, True, (0, 0, 0, 0, 2))
    >>> pair = first_crowd(((4, 0, 0), (0, 4, 0)))
    >>> pair, wanted(narrow, 0, pair, 0)
    (((('aside', 4), ('grass',)), ((0, 0), (4, 0))), (1, 4))
    >>> one = crowd_behind(narrow, 0, True, pair, (), True, 5)
    >>> two = crowd_behind(narrow, 1, True, one, (), True, 5)
    >>> one[0], two[0], soaked(one, 3)
    ((('rod', 1, 3), ('rod', 0, 1)), (('rod', 0, 2), ('rod', 1, 2)), ((('lost',), ('rod', 0, 1)), (None, (4, 0))))
    >>> barred(narrow, 2, True, two, ()), crowd_behind(narrow, 2, True, two, (), True, 5)[0], ready_crowd(wide, 2, False, two, ())[0]
    ((0, 1), (('rod', 0, 3), ('rod', 1, 1)), (('rod', 1, 2), ('rod', 0, 2)))
    >>> rung = (two[0], ((0, 0), (0, 2)))
    >>> ready_crowd(wide, 2, True, rung, ())[0], ready_crowd(wide, 2, False, rung, ()) == rung, barred(narrow, 2, True, rung, ())
    ((('rod', 1, 2), ('rod', 0, 2)), True, (0,))
    >>> full = ((('rod', 0, 2), ('aside', 4)), ((2, 0), (0, 3)))
    >>> ready_crowd(narrow, 2, True, full, ()) == full, carried(2, full)[0], ready_crowd(narrow, 4, True, full, ((0, 2),))[0]
    (True, (('rod', 0, 3), ('aside', 4)), (('lost',), ('rod', 1, 4)))
    >>> is_crowd(two, narrow, 2), is_crowd(((('rod', 0, 4),), ((0, 0),)), narrow, 2)
    (True, False)
    >>> wanted(narrow, 0, pair, 2)
    raises NoPlace(place=2)
"""

SECTION_10 = r"""
    >>> hoist, calm = ((4, 0, 0), (0, 4, 0)), ((), (), True, 5)
    >>> crowd_rows(narrow, hoist, (calm,), 3)[3][0], day_round(narrow, hoist, (calm,)), crowd_far(narrow, hoist, (calm,), 10 ** 12)[0]
    ((('rod', 0, 3), ('rod', 1, 1)), (2, 2), (('rod', 0, 2), ('rod', 1, 2)))
    >>> comes(wide, hoist, (calm,), 0, 9), all_come(narrow, hoist, (calm,), 50), day_round(wide, hoist, (calm,)), late_by(wide, hoist, (calm,), 9)
    (5, None, (5, 2), (0, 0))
    >>> bell = (calm, calm, (((0, 0), (1, 0)), (), True, 5))
    >>> all_come(wide, hoist, bell, 9), comes(narrow, hoist, bell, 1, 9), late_by(narrow, hoist, bell, 9), barred_rows(narrow, hoist, bell, 9)
    (7, 5, (2, 0), [(2, 0)])
    >>> halt = (((), (), False, 5), calm)
    >>> made_behind(halt, 10), comes(wide, hoist, halt, 0, 9), lost_by(narrow, hoist, (((), (), True, 3),), 1), is_day((calm, ((), (), 1, 5)), wide, hoist)
    (9, 6, (0,), False)
    >>> comes(wide, hoist, (calm,), 2, 9)
    raises NoPlace(place=2)
"""

SECTION_11 = r"""
    >>> change, both, two = ((2, 4, 4), (1, 3, 3)), ((4, 4), (4,)), ((4, 0, 0), (0, 4, 0))
    >>> is_change(change, narrow), is_change(((4, 2), ()), narrow), wide_end(change), book_end(least_plan(narrow, change))
    (True, False, 5, 6)
    >>> [level_end(4, up, down) for up, down in ((0, 0), (1, 1), (10, 1))], level_end(1, 3, 2), level_end(4, 10 ** 12, 10 ** 12)
    ([0, 5, 15], 3, 2000000000003)
    >>> in_turn(narrow, both, (0, 1, 2)), in_turn(narrow, both, (0, 2, 1))
    (((4, 0, 0), (4, 0, 1), (0, 4, 4)), ((4, 0, 0), (4, 0, 2), (0, 4, 1)))
    >>> staged_ends(narrow, two, (2,)), staged_ends(narrow, two + ((0, 3, 1),), (2,)), fewest_stages(narrow, two)
    ((4, 5), (4, 6, 4), (2,))
    >>> staged_ends(narrow, two, (1,))
    raises CanNot()
"""

SECTION_12 = r"""
    >>> pit, calm = ((6, 0, 2, 3, 1), (4, 5, 1, 4, 0), (2, 6, 2, 4, 1)), ((6, 0, 2, 3, 1), (4, 5, 1, 4, 0))
    >>> held_rows(pit, dry_held(pit), 5)[2:], adit_row(pit, dry_held(pit), 7)
    ([(2, 1, 2), (0, 3, 0), (2, 1, 5), (0, 3, 1)], (0, 0, 2, 0, 4, 0, 4))
    >>> brings(pit, (2, 1, 5), 4, (), (0, 0, 0)), brings(pit, (2, 1, 5), 4, (2,), (1, 0, 0)), behind_rest(pit, (0, 3, 2), 7, 7, True, (), (0, 0, 0))
    ((2, 0, 4), (1, 0, 0), ((2, 2, 6), 0))
    >>> behind_rest(pit, (0, 3, 2), 7, 6, False, (), (0, 0, 0)), behind_rest(pit, (2, 4, 6), 12, 12, True, (), (0, 0, 0))
    (((2, 4, 4), 0), ((1, 5, 2), 4))
    >>> behind_swing(calm, (2, 1)), drowned_levels(6, 2, (5, 0, 0)), is_held(pit, (9, 5, 7)), [way_out(pit, number) for number in range(3)]
    (((2, 1), 3), (5, 6), False, [4, 4, 2])
    >>> way_out(pit, 3)
    raises NoPlace(place=3)
"""

SECTION_13 = r"""
    >>> excesses(pit), is_roomy(pit), is_bounded(pit), growth(pit), greatest_cut(pit), is_cut(pit, 2), is_cut(pit, 1), outflow(pit)
    ((-1, -1, 1), True, False, 1, 2, True, False, 4)
    >>> flow_through(calm), is_flow(calm, (2, 3)), is_flow(calm, (2, 2)), is_flow(pit, (2, 3, 4)), filled(pit), filled(calm)
    ((2, 3), True, False, False, (6, 1), (1, 0))
    >>> held_far(pit, 10 ** 12) == (10 ** 12 - 4, 4, 6), out_far(pit, 10 ** 12) == 4 * 10 ** 12 - 6, held_far(pit, 6), swings_to(pit, 5), swings_to(calm, 3)
    (True, True, (2, 4, 6), 9, None)
    >>> tight, upper = ((2, 0, 3, 4, 1), (1, 2, 0, 4, 0)), ((3, 0, 6, 1, 0), (1, 20, 0, 4, 1))
    >>> is_roomy(tight), growth(tight), filled(tight), excesses(upper), growth(upper), greatest_cut(upper), filled(upper)
    (False, 0, (1, 1), (5, 2), 5, 0, (2, 5))
    >>> flow_through(pit)
    raises CanNot()
"""

SECTION_14 = r"""
    >>> flight, plain, wide = ((4, 1), (1, 0), (3, 0)), ((1, 1), (9, 0), (1, 1)), ((2, 1), (4, 0), (3, 0))
    >>> narrow_of(flight), lag_of(flight), given_row(flight, (3,), 6), given_in_all(flight, (3, 0, 5), 10 ** 12)
    (1, 1, (0, 0, 1, 1, 1, 0), 8)
    >>> least_rooms(flight, (3,)), least_rooms(((1, 1), (4, 0), (3, 0)), (3,)), gives_alike(flight, plain), is_parting_comes(flight, wide, (2,))
    ((3, 3, 1), (3, 1, 1), True, True)
    >>> pump = ((3, 0, 3, 4, 1), (2, 9, 0, 1, 0), (1, 9, 2, 3, 0))
    >>> flights_of(pump), may_exchange(pump, 0, 1), may_exchange(pump, 1, 2)
    ([(0, 1)], True, False)
    >>> parting_comes(flight, plain)
    raises CanNot()
"""

SECTION_15 = r"""
    >>> mine = ((3, 0, 2, 3, 0), (1, 4, 1, 2, 1))
    >>> drown_rests(mine, 4), drown_rest(mine, 2, 3), driest(mine, 4)
    ((26, 18, 10), 2, 0)
    >>> lift_for(mine, 4, 3, 1), lift_for(mine, 4, 3, 0), cheapest_lift(mine, 4, 3), cheapest_lift(mine, 2, 3)
    (3, None, (1, 1), None)
    >>> better = (mine[0], (1, 4, 1, 3, 1))
    >>> dam_of(better, 4, 3), is_dam(better, 4, 3, (3, 4)), is_dam(better, 4, 3, (2, 2)), drown_rests(better, 3), driest(better, 2)
    ((2, 3), True, False, (None, None, None), 2)
    >>> spring_for(mine, 4, 3, 1), spring_for(mine, 4, 3, 0), spring_for(better, 4, 3, 1), room_for(better, 3, 3, 1), room_for(mine, 4, 3, 1)
    (0, 1, 1, 3, None)
    >>> dam_of(mine, 4, 1)
    raises CanNot()
    >>> drown_rest(mine, 4, 4)
    raises NoPlace(place=4)
"""

SECTION_16 = r"""
    >>> mill = ((4, True, (0, 0, 0, 0, 0)), ((4, 0, 3, 3, 0), (2, 6, 1, 4, 1)), 4, (10, 4, (5, 8)))
    >>> stroke_weight(mill, (3, 4), 4, (), (0, 0)), stroke_weight(mill, (3, 4), 5, (), (1, 0)), greatest_weights(mill), is_stroke_made(mill, (3, 0), 9, 5, (), (0, 0))
    (8, 4, (6, 8), False)
    >>> lone_rows(mill, 2), weights_ahead(mill, 7), steam_behind(mill, 1, 9, 0)
    ([(0, (0, 0), 4), (1, (0, 0), 9), (2, (3, 1), 10)], (0, 0, 2, 6, 8, 6, 8), 10)
    >>> missed_strokes(mill, 16), first_lack(mill, 10), is_lack(mill, 10, (5, 9)), first_lack(mill, 9), least_room(mill, 10), least_more(mill, 10)
    ((9, 15), (4, 9), False, None, 11, 1)
    >>> missed_strokes(mill[:3] + (None,), 30), lone_rows(mill[:3] + (None,), 1)[1]
    ((), (1, (0, 0), 0))
    >>> least_room(mill[:3] + (None,), 4)
    raises Unfit()
"""

SECTION_17 = r"""
    >>> well = ((4, True, (0, 0, 0, 0, 0)), ((4, 0, 3, 1, 0),), 2, None)
    >>> [wet_from(well, own, 12) for own in (1, 2, 3, 4)], lasts_of(well, 12), last_slots(well, 12), lasts_of(well, 4)
    ([8, 6, 4, 2], (7, 5, 3, 1), (8, 7, 6, 5), (None, None, 3, 1))
    >>> [comes_up(well, 4, own, 12) for own in (5, 6)], flood_of(well, 4, 6, 12), is_flood(well, 4, 6, 12, (3, 4)), last_trip(well, 1, 3, 12), last_trip(well, 3, 1, 12)
    ([True, False], (4, 2), False, 3, -1)
    >>> slots_of(well, (), 4, 0, 12), slots_of(well, ((1, 0, 0),), 3, 0, 12), slots_of(well, ((0, 1, 5),), 2, 3, 12)
    ((4, 5), (3, 5), (5, 6))
    >>> stuck = well[:3] + ((2, 0, (1,)),)
    >>> made_row(stuck, 6), lasts_of(stuck, 8), last_slots(stuck, 8), flood_of(stuck, 4, 4, 8), comes_up(stuck, 3, 3, 8), comes_up(stuck, 3, 3, 2)
    ((0, 1, 2, 3, 3, 3, 3), (2, 2, 2, 1), (3, 3, 3, 3), (1, 6), True, False)
    >>> flood_of(well, 4, 5, 12)
    raises CanNot()
"""

SECTION_18 = r"""
    >>> lasts, bars = (9, 5, 2), ((0, 0, 4),)
    >>> [[s for s in range(12) if leads(lasts, bars, level, 0, s)] for level in (1, 2)], leads(lasts, bars, 2, 1, 6), slots_left(lasts, bars, 1, 4)
    ([[1, 2, 3, 4, 5, 7, 9], [2, 3, 4, 5, 7]], True, 4)
    >>> muster = ((3, 0), (3, 0), (2, 2), (1, 3))
    >>> saving(lasts, bars, muster), is_saving(lasts, bars, muster, (4, 3, 7, 5)), is_saving(lasts, bars, muster, (3, 4, 5, 6))
    ((3, 4, 5, 7), True, False)
    >>> late, odd = ((1, 3), (1, 3), (2, 0), (2, 0)), ((1, 1, 0),)
    >>> rescue((4, 2), odd, late), lot((4, 2), odd, late), is_lot((4, 2), odd, late, (0, 1, 2))
    ((5, None, 2, 4), (0, 1, 2, 3), False)
    >>> last_bell(lasts, bars, (3, 2, 2, 1)), depth_counts(lasts, bars, (3, 2, 2, 1), 3), last_bell((None, None), (), (2, 2))
    (2, [(1, 4, 4), (2, 3, 2), (3, 1, 0)], None)
    >>> saving(lasts, bars, ((3, 1), (3, 1), (3, 1)))
    raises CanNot()
"""

SECTION_19 = r"""
    >>> breaks, quick = (((0, 1), 0),), (None, None, 0)
    >>> bars_of(breaks), bars_of((((0, 2), 5),))
    (((1, 1, 0),), ((2, 0, 4),))
    >>> pit, up = (3, True, (0, 9, 9, 9)), (3, 0, 0)
    >>> first_barred(pit, breaks, up, 0), first_barred(pit, breaks, up, 1), first_barred(pit, (((0, 1), 2),), up, 0)
    ((1, 2, False), None, (2, 1, True))
    >>> [up_at(quick, bars_of(breaks), asides, (3, 0)) for asides in ((), (2,))], is_climb(quick, bars_of(breaks), (2,), (3, 0), ((3, 3), (2, 4)))
    ([None, 4], True)
    >>> most_up(quick, bars_of(breaks), (2, 3), ((3, 0), (2, 0), (2, 0)))
    3
    >>> worst_platforms((4, 1, 0), (), ((3, 0), (2, 0)), 0), least_mends((9, 9, 0), (((0, 0), 0), ((0, 1), 0)), ((3, 0),))
    ((1, ((0, 0), (0, 1), (1, 1), (1, 2), (1, 3))), [(((0, 1), 0),)])
    >>> most_up((9, 9), (), (2,), ((1, 0),))
    raises Unfit()
"""


SECTION_20 = r"""
    >>> pit = ((3, True, (0, 9, 9, 9)), ((3, 0, 1, 2, 0),), 9, None)
    >>> climb, dig = (pit, ((2, 0, 0),), (), (), 6), (pit, ((1, 3, 0),), (), (), 6)
    >>> rests_of(climb)[1], end_standing(climb)[2:6]
    ((1, 1, (0,), 0, (('rod', 1, 1),), ((0, 0),), (), (), True), ((1,), 0, (('grass',),), (None,)))
    >>> adit_of(climb), home_in(climb), home_in(climb[:2] + ((("platform", (1, 2), 0),),) + climb[3:])
    ((0, 0, 0, 1, 0, 1), [(3, 0)], [(4, 0)])
    >>> end_standing(dig)[4], home_in(with_bell(dig, 1)), bells_that_save(dig)
    ((('aside', 3),), [(4, 0)], (0, 1, 2))
    >>> two = (pit[0], ((3, 0, 2, 2, 0), (1, 1, 0, 1, 0)), 9, None)
    >>> [own[2] for own in rests_of((two, (), (), (), 6))][3:], adit_of((two, (), (), ((4, ("cock", 1, 1)),), 6))
    ([(2, 0), (3, 1), (3, 1), (4, 1)], (0, 0, 0, 0, 0, 0))
    >>> can_do(pit, (), first_standing(pit, ()), ("couple", 0, True)), is_run(climb)
    (False, True)
    >>> rest_done(pit, (), first_standing(pit, ()), (("stoke", 5),))
    raises Unfit()
"""

SECTION_21 = r"""
    >>> water_book(climb), water_sum(climb), raised(climb), fallen(climb)
    (((3, 2, 0, 0, 1),), (3, 2, 1), 6, 0)
    >>> flood = (two, (), (), (), 6)
    >>> water_book(flood), water_sum(flood), raised(flood), fallen(flood)
    (((6, 4, 0, 0, 4), (0, 1, 2, 0, 1)), (6, 1, 5), 9, 4)
    >>> men_book(with_bell(dig, 1)), stride_book(with_bell(dig, 1)), steam_book(climb)
    (((2, 1),), ((1, 0), (1, 1), (0, 0)), None)
    >>> ledger(climb), ledger_on(pit, (), rests_of(climb)[3], (), 3)
    ((6, 6, 3, 2, 6, 0, 2, 0, 0), (3, 3, 2, 2, 6, 0, 0, 0, 0))
    >>> tender = (pit[:3] + ((9, 4, (3, 0)),), (), (), (), 6)
    >>> moved_in(tender), steam_book(tender)
    ((True, True, True, True, True, True), (13, 6, 1, 6))
"""

SECTION_22 = r"""
    >>> pond = ((2, True, (0, 0, 0)), ((2, 0, 3, 1, 0),), 2, None)
    >>> round_of(pond, (), ()), [is_round(pond, (), (), own) for own in ((2, 4, 4), (1, 2, 2), (2, 2, 0))]
    ((2, 2, 2), [True, False, False])
    >>> far_standing(pond, (), (), 10**12)[2], adit_far(pond, (), (), 10**12)
    ((1000000000001,), 499999999999)
    >>> [drowned_from(pond, (), (), level) for level in (2, 1, 0)], for_good(pond, (), ())
    ([2, 4, None], (1, 2))
    >>> narrow = ((4, False, (0, 0, 0, 0, 1)), ((4, 0, 0, 1, 0),), 1, None)
    >>> both = ((4, 0, 0), (0, 4, 0))
    >>> round_of(narrow, both, ()), last_place(narrow, both, (), 0), last_place(narrow, both[:1], (), 0)
    ((2, 2, 0), None, ('grass',))
    >>> drowned_from(pond, (), (), 3)
    raises NoPlace(place=3)
"""

SECTION_23 = r"""
    >>> twin = ((2, True, (0, 0, 1)), ((2, 0, 2, 5, 0), (1, 9, 1, 9, 1)), 9, None)
    >>> leak = ("valve", 0, 1, 5)
    >>> adit_of((twin, (), (), (), 9)), adit_of((twin, (), (leak,), (), 9)), is_calm(twin)
    ((0, 0, 1, 0, 3, 0, 3, 0, 3), (0, 0, 1, 0, 3, 0, 2, 0, 3), True)
    >>> dents(twin, (), (leak,), 0, 12), gauge_felt(twin, (), (leak,), 0, 12)
    ([(6, -1)], (6, 0))
    >>> dent_of(twin, leak), twins_of(twin, leak)
    ((6, 1), [(0, 4, 5), (1, 5, 6)])
    >>> damp, more = (twin[0], ((2, 0, 1, 1, 0),), 2, None), ("spring", 0, 1, 4)
    >>> [taken_by(damp, ((2, 0, 9),), (more,), 0, many) for many in (5, 6)], springs_at(damp, (more,), 4)
    ([(), (0,)], (2,))
    >>> valves_at(twin, (leak, ("valve", 0, 2, 7)), 7), broken_at(twin, (("platform", (1, 1), 3),), 2)
    ((3, 0), ())
    >>> dent_of(twin, ("valve", 0, 3, 5))
    raises Unfit()
"""

SECTION_24 = r"""
    >>> brook = ((5, 0, 2, 9, 1), (3, 9, 1, 9, 0), (1, 9, 3, 9, 0))
    >>> low, middle, high = ("valve", 0, 2, 4), ("valve", 1, 2, 5), ("valve", 2, 2, 7)
    >>> is_easy(brook), leaky_row(brook, None, 8), leaky_row(brook, low, 8)
    (True, (0, 0, 0, 3, 0, 6, 0, 6), (0, 0, 0, 3, 0, 6, 0, 4))
    >>> sums_told(brook, (0, 0, 0, 1, 0, 3)), fits(brook, (0, 0, 0, 1, 0, 3), 1, (None,))
    ([((2,), 1), ((0, 1), 2)], (((1, 1, 1), 0),))
    >>> len(fits(brook, leaky_row(brook, low, 8), 3, (None, low, middle, high))), refusal(brook, (0, 0, 0, 1, 0, 0), 1, (None,))
    (10, (3, 5, 3, 5, 3, 5, 3, 5))
    >>> best_gauge(brook, (low, middle, high), ((0, 2), (1, 8), (0, 8))), parting_gauge(brook, low, middle, 20)
    ((1, 8), (5, 0))
    >>> frames_alike(((4, 0, 0, 9, 0), (2, 9, 0, 9, 1)), ((6, 0, 0, 5, 1), (1, 7, 0, 5, 1))), frames_alike(brook, brook[:2])
    (True, False)
    >>> sums_told(brook, (0, 0, 0, 1))
    raises Unfit()
"""

SECTION_25 = r"""
    >>> tight, cross = (4, False, (0, 1, 1, 1, 1)), ((4, 0, 0), (0, 4, 0))
    >>> is_so(("free", tight, cross)), is_paper_against(("free", tight, cross), (0, 1, 2)), is_paper_for(("waits", tight, cross, 1), (0, 1))
    (False, True, True)
    >>> wells = ((6, 0, 2, 3, 1), (4, 5, 1, 4, 0), (2, 6, 2, 4, 1))
    >>> verdicts((("cut", wells, 1), ("cut", wells, 2), ("cut", wells, 2)), (2, (2, 3, 4), (2, 3, 3)))
    ['for', 'against', 'none']
    >>> verdicts((("saved", (9, 5, 2), ((0, 0, 4),), ((3, 0), (3, 0))), ("steam", mill, 3), ("steam", mill, 10)), ((4, 3), (4, 9, 10), (4, 9)))
    ['for', 'for', 'against']
    >>> verdicts((("again", pond, (), ()), ("again", narrow, both, ()), ("home", climb), ("home", dig)), ((2, 4, 4), (2, 2, 0), (4,), 0))
    ['against', 'for', 'for', 'against']
    >>> comes_of(("waits", tight, cross[:1], 2), (("free", tight, cross),)), comes_of(("cut", wells, 2), (("cut", wells, 1),)), first_false((("cut", wells, 1), ("home", dig)))
    (True, False, 1)
    >>> is_so(("cut", wells, 0))
    raises Unfit()
"""

SECTION_26 = r"""
    >>> words = "deep 2, narrow\nrooms 0 1 1\ncistern 2: room 0, spring 2, measure 2, rod 0\nper 9"
    >>> works = mine_by(words)
    >>> works, mine_text(works) == words
    (((2, False, (0, 1, 1)), ((2, 0, 2, 2, 0),), 9, None), True)
    >>> day = (works, ((2, 0, 0),), (("valve", 0, 1, 5),), ((1, ("bell",)), (3, ("couple", 0, False))), 6)
    >>> run_text(day)[len(words) + 1:]
    'ride 2 to 0, ready 0\nfault valve 0 less 1, from 5\nat 1: bell\nat 3: uncouple 0\nrests 6'
    >>> run_by(run_text(day)) == day, ride_text((4, 1, 2)), fault_by("platform 1 3, from 0"), deed_by("cock 1 by 2")
    (True, '4 to 1, ready 2', ('platform', (1, 3), 0), ('cock', 1, 2))
    >>> mine_by(words + "\nengine 9, 4: 0 2")[3], deed_text(("board", 0, 2))
    ((9, 4, (0, 2)), 'board 0 to 2')
    >>> mine_by("deep 2, narrow\nrooms 0 1")
    raises BadLine(line=2)
    >>> run_by(words)
    raises BadLine(line=5)
    >>> ride_by("2 to 2, ready 0")
    raises BadLine(line=1)
"""

SECTION_27 = r"""
    >>> mine = ((3, True, (0, 2, 2, 2)), ((3, 0, 1, 2, 0),), 9, None)
    >>> slate = Board(mine, ((2, 0, 0), (1, 3, 4)), ())
    >>> slate.home_ahead(9), slate.waiting(), slate.effect(("board", 1, 0), 9)
    ((3, None), (0, 1), ((3, None), (3, 2)))
    >>> slate.rests(3), slate.home(), slate.out(), slate.board(1, 2), slate.rests(1)
    (None, (0,), 0, None, None)
    >>> slate.standing()[4], slate.told(), slate.run()[4], slate.out()
    ((('grass',), ('rod', 1, 2)), ((3, ('board', 1, 2)),), 4, 1)
    >>> mate = slate.twin()
    >>> slate.undo(), slate.undo(), slate == mate, slate.standing()[5], slate.redo(), slate.redo(), slate == mate
    ('rests', 'board', False, (None, (3, 4)), 'board', 'rests', True)
    >>> slate.couple(0, True)
    raises Unfit()
    >>> Board(mine, (), ()).undo()
    raises NothingDone()
"""

SECTION_28 = r"""
    >>> sheet = "run\n deep 3, wide\n rooms 0 2 2 2\n cistern 3: room 0, spring 1, measure 2, rod 0\n per 9\n ride 2 to 0, ready 0\n ride 1 to 3, ready 4\n rests 0\n"
    >>> desk(sheet + "men\ntry 9 board 1 to 0\nrests 3\nhome\nboard 1 to 2\nrests 1\nout\ntold\nundo\nundo\nundo\nundo\ncouple 0")
    ['done', 'aside 2, to 0 from 0\naside 1, to 3 from 4', '3 none\n3 2', 'done', '0', 'done', 'done', '1', 'at 3: board 1 to 2', 'rests', 'board', 'rests', 'refused NothingDone', 'refused Unfit']
    >>> is_request("uncouple 3"), is_request("stoke 0"), is_request("run\n x"), is_request("rests 0")
    (True, False, True, False)
    >>> desk("undo\n")
    raises BadLine(line=2)
"""


class Examples(unittest.TestCase):
    """Names of an example are those of the nearest one before that sets them, so all share them."""

    def test_examples(self):
        names = {}
        for file, words in IMPORTS:
            exec(f"from manrods.{file} import {', '.join(words.split())}", names)
        for text in (SECTION_4, SECTION_5, SECTION_6, SECTION_7, SECTION_8, SECTION_9, SECTION_10, SECTION_11,
                     SECTION_12, SECTION_13, SECTION_14, SECTION_15, SECTION_16, SECTION_17, SECTION_18, SECTION_19,
                     SECTION_20, SECTION_21, SECTION_22, SECTION_23, SECTION_24, SECTION_25, SECTION_26, SECTION_27,
                     SECTION_28):
            run_examples(self, text, names)


if __name__ == "__main__":
    unittest.main()
