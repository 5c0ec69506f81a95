"""Tests of starward.rows: points [55] to [59], and the interface."""

import unittest
from functools import cache
from itertools import combinations_with_replacement, product
from random import Random

from starward import rows as ro
from starward.attitudes import attitudes, commanded, motion_between
from starward.confuse import confusing_sighting, lack
from starward.errors import InvalidAttitude, InvalidCommand, InvalidSighting
from starward.sightings import need
from starward.sky import Sky, check_sighting
from tests.plain import (CallsTest, far_pairs, no_attitudes, no_commands, no_sightings, plain_course, plain_led,
                         plain_spots, some_row, some_sighting, some_sky, what_is_raised)

EXAMPLE = Sky(5, [(0, 0, 5), (1, 0, 3)], (1, 0, 0, 1))
LOOK_AGAIN = (0, 0, 0)
EACH = [None, (0, 0), (1, 0), (0, 1), (1, 1), (2, 0), (20, 20)]


@cache
def some_skies():
    """Return small skies; at many of their attitudes several stars are sure."""
    return [EXAMPLE, some_sky(1, 4, (1, 0, 0, 4), 7), some_sky(2, 5, (2, 0, 0, 3), 5), some_sky(3, 4, (1, 0, 1, 2), 10),
            Sky(4, [], (1, 0, 0, 1)), Sky(5, [(0, 0, 9), (2, 1, 9)], (0, 0, 0, 1)), some_sky(4, 9, (3, 1, 0, 1), 20)]


@cache
def kept_lacks(sky, one, other):
    """Return the tuple of both lacks of two attitudes."""
    return (lack(sky, one, other), lack(sky, other, one))


def plain_lacks(sky, one, other, row):
    """Return the list of the tuples of both lacks, frame by frame."""
    return [kept_lacks(sky, *pair) for pair in zip(plain_course(sky, one, row), plain_course(sky, other, row))]


def plain_confusable(sky, one, other, row, bound):
    """Return True if both sums of lacks over the row are at most the bound."""
    return max(map(sum, zip(*plain_lacks(sky, one, other, row)))) <= bound


def plain_lot(sky, one, other, allowed):
    """Return the ascending list of all pairs that rows of the commands lead to."""
    found = {(one, other)}
    while True:
        led = {(commanded(sky, first, command), commanded(sky, second, command))
               for first, second in found for command in allowed}
        if led <= found:
            return sorted(found)
        found |= led


class CourseTest(unittest.TestCase):

    def test_against_the_words(self):
        for side, many in product((4, 5, 9), (0, 1, 2, 7)):
            sky, row = Sky(side, [], (1, 0, 0, 1)), some_row(many, side, many)
            for beginning in attitudes(sky)[::11]:
                self.assertEqual(ro.course(sky, beginning, row), plain_course(sky, beginning, row))
        self.assertEqual(ro.course(EXAMPLE, (1, 2, 3), []), [(1, 2, 3)])

    def test_row_of_2000_commands(self):
        sky, row = Sky(9, [], (1, 0, 0, 1)), some_row(1, 9, 2000)
        self.assertEqual(ro.course(sky, (8, 0, 2), row), plain_course(sky, (8, 0, 2), row))


class RowNeedTest(unittest.TestCase):

    def some(self):
        """Return tuples of a sky, a row and its sightings."""
        for seed, sky in enumerate(some_skies()):
            for many in (0, 1, 3):
                row = some_row(seed, sky.side, many)
                yield (sky, row, [some_sighting(seed + frame, sky, frame % 3) for frame in range(many + 1)])
                yield (sky, row, [()] * (many + 1))

    def test_row_need_and_beginnings(self):
        for sky, row, sightings in self.some():
            told = {}
            for beginning in attitudes(sky):
                there = plain_course(sky, beginning, row)
                told[beginning] = [need(sky, attitude, sighting) for attitude, sighting in zip(there, sightings)]
                self.assertEqual(ro.row_need(sky, beginning, row, sightings), tuple(map(sum, zip(*told[beginning]))))
            for (missing, false), each in product([(0, 0), (1, 0), (0, 2), (2, 2)], EACH[:5]):
                can = [beginning for beginning, needs in told.items()
                       if sum(first for first, _ in needs) <= missing and sum(second for _, second in needs) <= false
                       and (each is None or all(first <= each[0] and second <= each[1] for first, second in needs))]
                self.assertEqual(ro.beginnings(sky, row, sightings, missing, false, each), can)

    def test_totals_just_reached_and_just_missed(self):
        row, sightings = [LOOK_AGAIN, (1, 0, 0)], [((0, 0, 5),), ((1, 1, 9),), ((1, 1, 9), (1, 1, 9))]
        self.assertEqual(ro.row_need(EXAMPLE, (0, 0, 0), row, sightings), (5, 3))
        for totals, each, can in [((5, 3), None, True), ((4, 3), None, False), ((5, 2), None, False),
                                  ((5, 3), (2, 2), True), ((5, 3), (1, 2), False), ((5, 3), (2, 1), False),
                                  ((4, 3), (2, 2), False), ((20, 20), (2, 2), True), ((20, 20), (0, 20), False)]:
            self.assertIs((0, 0, 0) in ro.beginnings(EXAMPLE, row, sightings, *totals, each), can)
            self.assertIs((0, 0, 0) in ro.beginnings(EXAMPLE, row, sightings, *totals, each=each), can)

    def test_row_of_2000_commands(self):
        sky, row = some_sky(5, 9, (3, 1, 1, 2), 20), some_row(5, 9, 2000)
        there = plain_course(sky, (4, 4, 1), row)
        sightings = [confusing_sighting(sky, attitude, attitude, 0, 0) for attitude in there]
        self.assertEqual(ro.row_need(sky, (4, 4, 1), row, sightings), (0, 0))
        self.assertIn((4, 4, 1), ro.beginnings(sky, row, sightings, 0, 0))
        self.assertIn((4, 4, 1), ro.beginnings(sky, row, sightings, 20, 20, (3, 3)))
        full = [some_sighting(frame % 7, sky, 60) for frame in range(2001)]
        told = ro.row_need(sky, (4, 4, 1), row, full)
        # Each frame has 60 spots for at most 20 stars.
        self.assertGreaterEqual(told[1], 2001 * 40)
        self.assertEqual(ro.beginnings(sky, row, full, 20, 20), [])
        dark = Sky(9, [(0, 0, 1)], (3, 1, 1, 2))
        self.assertEqual(ro.beginnings(dark, row, [()] * 2001, 0, 0, (0, 0)), attitudes(dark))


class ConfusableOverTest(unittest.TestCase):

    def some(self, seed):
        """Return tuples of a sky, two beginnings and a row."""
        chance = Random(seed)
        for sky, many in product(some_skies(), (0, 1, 2, 4)):
            pairs = [(beginning, chance.choice(attitudes(sky))) for beginning in chance.choices(attitudes(sky), k=4)]
            for one, other in [*pairs, ((1, 1, 1), (1, 1, 1))]:
                yield (sky, one, other, some_row(seed + many, sky.side, many))

    def test_row_lacks(self):
        for case in self.some(1):
            self.assertEqual(ro.row_lacks(*case), plain_lacks(*case))

    def test_against_all_sightings(self):
        for sky, most_spots in [(Sky(4, [(0, 0, 9), (1, 0, 9), (1, 1, 9)], (1, 0, 0, 9)), 3),
                                (Sky(4, [(0, 0, 9), (0, 0, 8), (2, 1, 8), (0, 1, 9)], (0, 0, 0, 8)), 4)]:
            every = [sighting for many in range(most_spots + 1)
                     for sighting in combinations_with_replacement(plain_spots(sky), many)]
            for one, other in [((0, 0, 0), (1, 0, 0)), ((0, 0, 0), (2, 1, 0)), ((1, 1, 0), (1, 1, 2)),
                               ((0, 0, 1), (0, 1, 3))]:
                row = [(1, 0, 0), (0, 1, 1)]
                sums = {((0, 0, 0, 0), (0, 0, 0, 0))}
                for first, second in zip(plain_course(sky, one, row), plain_course(sky, other, row)):
                    told = {(*need(sky, first, sighting), *need(sky, second, sighting)) for sighting in every}
                    # What is more in each number than another one shows nothing new.
                    told = [each for each in told if not any(less != each and all(map(int.__le__, less, each))
                                                             for less in told)]
                    sums = {(tuple(map(int.__add__, total, more)), tuple(map(max, greatest, more)))
                            for total, greatest in sums for more in told}
                for missing, false, each in product(range(4), range(4), EACH):
                    bounds = (20, 20) if each is None else each
                    can = any(max(total[0], total[2]) <= missing and max(total[1], total[3]) <= false
                              and max(most[0], most[2]) <= bounds[0] and max(most[1], most[3]) <= bounds[1]
                              for total, most in sums)
                    self.assertIs(ro.are_confusable_over(sky, one, other, row, missing, false, each), can)

    def test_against_the_words(self):
        for case in self.some(2):
            lacks = plain_lacks(*case)
            for missing, false, each in product((0, 1, 2, 5, 9), (0, 1, 3, 8), EACH):
                can = True
                for told in zip(*lacks):
                    can = can and sum(told) <= missing + false
                    if each is not None:
                        can = (can and max(told) <= sum(each)
                               and sum(max(0, many - each[1]) for many in told) <= missing
                               and sum(max(0, many - each[0]) for many in told) <= false)
                self.assertIs(ro.are_confusable_over(*case, missing, false, each), can)
                if each is not None:
                    self.assertIs(ro.are_confusable_over(*case, missing, false, each=each), can)

    def test_confusing_sightings_let_both_be(self):
        for case in self.some(3):
            sky, one, other, row = case
            for missing, false, each in product((0, 1, 5), (0, 2, 8), EACH):
                told = ro.confusing_sightings(*case, missing, false, each)
                if not ro.are_confusable_over(*case, missing, false, each):
                    self.assertIsNone(told)
                    continue
                self.assertEqual(len(told), len(row) + 1)
                for beginning in (one, other):
                    needs = []
                    for attitude, sighting in zip(plain_course(sky, beginning, row), told):
                        self.assertIsNone(check_sighting(sky, sighting))
                        needs.append(need(sky, attitude, sighting))
                        self.assertTrue(each is None or (needs[-1][0] <= each[0] and needs[-1][1] <= each[1]))
                    self.assertLessEqual(sum(first for first, _ in needs), missing)
                    self.assertLessEqual(sum(second for _, second in needs), false)

    def test_bounds_of_each_frame_beside_the_totals(self):
        # Both lacks are 2, 2: so a frame by itself needs 2, and the row 4.
        case = (EXAMPLE, (0, 0, 0), (0, 2, 0), [LOOK_AGAIN])
        self.assertEqual(ro.row_lacks(*case), [(2, 0), (2, 0)])
        for totals, each, can in [((2, 2), None, True), ((2, 1), None, False), ((4, 0), None, True),
                                  ((4, 0), (2, 0), True), ((4, 0), (1, 1), False), ((2, 2), (1, 1), True),
                                  ((2, 2), (1, 0), False), ((2, 2), (2, 0), False), ((3, 1), (1, 1), False),
                                  ((3, 1), (2, 1), True), ((3, 1), (1, 2), False), ((1, 3), (1, 2), True),
                                  ((0, 4), (0, 2), True), ((20, 20), (0, 1), False), ((1, 2), (2, 2), False)]:
            self.assertIs(ro.are_confusable_over(*case, *totals, each), can, (totals, each))
            self.assertIs(ro.confusing_sightings(*case, *totals, each) is not None, can)

    def test_rows_of_2000_commands(self):
        sky, row = some_sky(6, 9, (3, 1, 1, 2), 20), some_row(6, 9, 2000)
        lacks = ro.row_lacks(sky, (0, 0, 0), (4, 3, 1), row)
        self.assertEqual(lacks[::50], [kept_lacks(sky, *pair) for pair in list(zip(
            plain_course(sky, (0, 0, 0), row), plain_course(sky, (4, 3, 1), row)))[::50]])
        told = ro.confusing_sightings(sky, (4, 3, 1), (4, 3, 1), row, 0, 0)
        self.assertEqual(ro.row_need(sky, (4, 3, 1), row, told), (0, 0))
        self.assertIs(ro.are_confusable_over(sky, (0, 0, 0), (4, 3, 1), row, 20, 20),
                      max(map(sum, zip(*lacks))) <= 40)


class QuickestRowTest(unittest.TestCase):

    CHOICES = [[LOOK_AGAIN], [(1, 0, 0)], [(0, 0, 1), (1, 0, 0)], [(1, 0, 0), (0, 1, 0), (0, 0, 1)], [(2, 1, 2)],
               [(1, 1, 3), LOOK_AGAIN]]

    def some(self, seed):
        """Return tuples of a sky, two beginnings and allowed commands."""
        chance = Random(seed)
        for sky, allowed in product(some_skies()[:6], self.CHOICES):
            for one, other in [chance.choices(attitudes(sky), k=2) for _ in range(5)]:
                yield (sky, one, other, allowed)
            yield (sky, one, one, allowed)

    def test_against_all_rows_up_to_a_length(self):
        lengths = []
        for sky, one, other, allowed in self.some(1):
            for missing, false in [(0, 0), (1, 0), (0, 2), (3, 1)]:
                least = None
                for length in range(4):
                    if least is None and any(not plain_confusable(sky, one, other, row, missing + false)
                                             for row in product(allowed, repeat=length)):
                        least = length
                told = ro.quickest_row(sky, one, other, allowed, missing, false)
                if least is not None:
                    self.assertEqual(len(told), least)
                    lengths.append(least)
                elif told is not None:
                    self.assertGreater(len(told), 3)
                if told is not None:
                    self.assertTrue(all(command in allowed for command in told))
                    self.assertIs(plain_confusable(sky, one, other, told, missing + false), False)
                    self.assertIs(ro.are_confusable_over(sky, one, other, told, missing, false), False)
        self.assertEqual(set(lengths), {0, 1, 2, 3})

    def test_exactly_one_of_a_row_and_a_standstill(self):
        told = set()
        for sky, one, other, allowed in self.some(2):
            lot = plain_lot(sky, one, other, allowed)
            still = all(kept_lacks(sky, *pair) == (0, 0) for pair in lot)
            self.assertEqual(ro.standstill(sky, one, other, allowed), lot if still else None)
            for missing, false in [(0, 0), (4, 7)]:
                self.assertIs(ro.quickest_row(sky, one, other, allowed, missing, false) is None, still)
            told.add(still)
        self.assertEqual(told, {True, False})

    def test_greatest_bounds_and_many_frames(self):
        # Just at one of 9 places a star is seen, and only by the first one.
        sky = Sky(9, [(8, 0, 5)], (0, 0, 0, 1))
        told = ro.quickest_row(sky, (0, 0, 0), (0, 1, 0), [(1, 0, 0)], 20, 20)
        self.assertEqual(told, [(1, 0, 0)] * (9 * 41 - 1))
        self.assertEqual(len(ro.quickest_row(sky, (0, 0, 0), (0, 1, 0), [(1, 0, 0), LOOK_AGAIN], 20, 20)), 48)
        self.assertEqual(len(ro.quickest_row(sky, (0, 1, 0), (0, 0, 0), [(1, 0, 0), LOOK_AGAIN], 20, 20)), 48)
        full = some_sky(5, 9, (3, 1, 1, 2), 20)
        row = ro.quickest_row(full, (0, 0, 0), (3, 4, 1), [(1, 0, 0), (0, 1, 0), (0, 0, 1), (2, 3, 1), (1, 5, 2),
                                                           (4, 4, 0), (0, -1, 3), (-2, 1, 0)], 20, 20)
        self.assertIs(ro.are_confusable_over(full, (0, 0, 0), (3, 4, 1), row, 20, 20), False)
        self.assertIs(ro.are_confusable_over(full, (0, 0, 0), (3, 4, 1), row[:-1], 20, 20), True)

    def test_check_standstill(self):
        for sky, one, other, allowed in self.some(3):
            lot = plain_lot(sky, one, other, allowed)
            still = all(kept_lacks(sky, *pair) == (0, 0) for pair in lot)
            self.assertIs(ro.check_standstill(sky, one, other, allowed, lot), still)
            self.assertIs(ro.check_standstill(sky, one, other, allowed, [*lot[::-1], lot[0], lot[-1]]), still)
            self.assertIs(ro.check_standstill(sky, one, other, allowed, []), False)
            for place in range(0, len(lot), 5):
                self.assertIs(ro.check_standstill(sky, one, other, allowed, lot[:place] + lot[place + 1:]), False)

    def test_check_standstill_with_other_pairs(self):
        sky = Sky(5, [(0, 0, 9)], (0, 0, 0, 1))
        two, allowed = ((1, 1, 0), (1, 2, 0)), [(1, 0, 0)]
        lot = plain_lot(sky, *two, allowed)
        self.assertEqual(ro.standstill(sky, *two, allowed), lot)
        more = plain_lot(sky, (1, 1, 1), (1, 1, 3), [LOOK_AGAIN])
        other = plain_lot(sky, (0, 3, 0), (4, 4, 2), allowed)
        self.assertIs(ro.check_standstill(sky, *two, allowed, lot + other), True)
        self.assertIs(ro.check_standstill(sky, *two, allowed, lot + more), False)
        self.assertIs(ro.check_standstill(sky, *two, [LOOK_AGAIN], [*more, two]), True)
        self.assertIs(ro.check_standstill(sky, *two, [LOOK_AGAIN], [two, ((0, 0, 0), (1, 1, 1))]), False)
        self.assertIs(ro.check_standstill(sky, *two, [LOOK_AGAIN], [two, ((1, 1, 1), (0, 0, 0))]), False)
        self.assertIs(ro.check_standstill(sky, *two, [LOOK_AGAIN], [two[::-1]]), False)
        self.assertIs(ro.check_standstill(sky, *two, [LOOK_AGAIN], more), False)
        # Around the sky these are the two, but they are no attitudes.
        for bad in [((6, 1, 0), two[1]), (two[0], (1, -3, 0)), ((1, 1, 4), (1, 2, 4)), (two[0], (1, 2, -4))]:
            self.assertIs(ro.check_standstill(sky, *two, [LOOK_AGAIN], [two, bad]), False)
            self.assertIs(ro.check_standstill(sky, *two, allowed, [bad, *lot]), False)
        for bad in [(9, 9, 9), (5, 0, 0), (0, 0, 4), (-1, 0, 0)]:
            for pair in [(bad, two[0]), (two[0], bad), (bad, bad)]:
                self.assertIs(ro.check_standstill(sky, *two, [LOOK_AGAIN], [two, pair]), False)
                self.assertIs(ro.check_standstill(sky, *two, [LOOK_AGAIN], [pair]), False)


class PairTest(unittest.TestCase):

    def test_command_leads_pairs_back_and_keeps_the_motion(self):
        for side in (4, 5, 9):
            sky = Sky(side, [], (1, 0, 0, 1))
            for command in some_row(side, side, 12):
                for one, other in zip(attitudes(sky)[::7], attitudes(sky)[::-5]):
                    row = [command] * side
                    first, second = ro.course(sky, one, row), ro.course(sky, other, row)
                    self.assertIn((one, other), list(zip(first, second))[1:])
                    self.assertEqual({motion_between(sky, *pair) for pair in zip(first, second)},
                                     {motion_between(sky, one, other)})


class FramesEnoughTest(unittest.TestCase):

    COMMANDS = [LOOK_AGAIN, (1, 0, 0), (0, 0, 1), (1, 2, 3), (2, -1, 2), (2, 2, 0)]

    def plain_frames(self, sky, pair, command, bound):
        """Return the least number of frames over which the two are not confusable, or None if there is none."""
        lot = plain_lot(sky, *pair, [command])
        if all(kept_lacks(sky, *each) == (0, 0) for each in lot):
            return None
        row = []
        while plain_confusable(sky, *pair, row, bound):
            row.append(command)
        return len(row) + 1

    def test_against_all_far_pairs(self):
        found = set()
        for sky, command, ((missing, false), slack) in product(
                [some_sky(1, 4, (1, 0, 0, 4), 7), some_sky(9, 4, (1, 0, 0, 1), 12), EXAMPLE], self.COMMANDS,
                [((0, 0), 0), ((2, 1), 2)]):
            told = {pair: self.plain_frames(sky, pair, command, missing + false)
                    for pair in far_pairs(sky, slack)[::1 if sky.side == 4 else 20]}
            never = [pair for pair, frames in told.items() if frames is None]
            frames, slowest = (ro.frames_enough(sky, command, missing, false, slack),
                               ro.slowest_pair(sky, command, missing, false, slack))
            if sky.side == 4:
                most = None if never else max(told.values())
                self.assertEqual(frames, most)
                self.assertEqual(slowest, min(pair for pair, many in told.items() if many == most))
            elif never:
                self.assertIsNone(frames)
            elif frames is not None:
                self.assertGreaterEqual(frames, max(told.values()))
            found.add(frames)
        self.assertIn(None, found)
        self.assertGreater(len(found), 3)

    def frames_along(self, sky, pair, command, bound):
        """Return how many frames a pair needs, by the lacks along the ring of the command, or None."""
        ring = [pair]
        while len(ring) == 1 or ring[-1] != pair:
            ring.append(tuple(plain_led(sky, attitude, command)[0] for attitude in ring[-1]))
        lacks = [kept_lacks(sky, *each) for each in ring[:-1]]
        if all(each == (0, 0) for each in lacks):
            return None
        sums, frames = [0, 0], 0
        while max(sums) <= bound:
            sums = [total + more for total, more in zip(sums, lacks[frames % len(lacks)])]
            frames += 1
        return frames

    def test_slacks_and_pairs_that_are_never_told_apart(self):
        # Rows of equal stars are told by no shift along them; sparse skies have pairs that see nothing for ever.
        skies = [Sky(4, [(x, y, 5 + y) for x in range(4) for y in range(3)], (1, 0, 0, 1)),
                 Sky(4, [(x, y, 5 + x) for x in range(4) for y in range(4)], (0, 0, 0, 1)),
                 Sky(4, [(x, y, 5 + x % 2) for x in range(4) for y in range(4)], (1, 0, 0, 1)),
                 Sky(4, [(3, 3, 9)], (1, 0, 0, 1)), Sky(4, [(2, 3, 9), (3, 3, 4)], (0, 0, 0, 1)),
                 *[some_sky(seed, 4, (1, 0, 0, 3), 2 + 2 * seed) for seed in range(7)]]
        nevers, found = set(), set()
        for number, sky in enumerate(skies):
            for command, slack, bound in product(self.COMMANDS[number % 2::2], (0, 1, 2), (0, 5, 40)):
                told = {pair: self.frames_along(sky, pair, command, bound) for pair in far_pairs(sky, slack)}
                never = [pair for pair, frames in told.items() if frames is None]
                most = None if never else max(told.values())
                first = min(never) if never else min(pair for pair, frames in told.items() if frames == most)
                given = (sky, command, bound // 2, bound - bound // 2, slack)
                self.assertEqual((ro.frames_enough(*given), ro.slowest_pair(*given)), (most, first))
                nevers.update(min(never)[:1] if never else [])
                found.add(most)
        self.assertGreater(len(nevers), 2)
        self.assertGreater(len(found), 8)

    def test_looking_again_at_the_same_place(self):
        for seed in range(3):
            sky = some_sky(seed, 4, (1, 0, 0, 1), 18)
            least = min(max(kept_lacks(sky, *pair)) for pair in far_pairs(sky, 0))
            for missing, false in [(0, 0), (1, 0), (3, 4), (20, 20)]:
                expected = (missing + false) // least + 1 if least else None
                self.assertEqual(ro.frames_enough(sky, LOOK_AGAIN, missing, false, 0), expected)

    def test_pair_that_is_never_told_apart(self):
        sky = Sky(4, [], (1, 0, 0, 1))
        self.assertIsNone(ro.frames_enough(sky, (1, 0, 1), 0, 0, 0))
        self.assertEqual(ro.slowest_pair(sky, (1, 0, 1), 0, 0, 0), ((0, 0, 0), (0, 0, 1)))
        self.assertEqual(ro.slowest_pair(sky, (1, 0, 1), 20, 20, 9), ((0, 0, 0), (0, 0, 1)))

    def test_one_frame_is_enough(self):
        sky = Sky(5, [(0, 0, 3), (1, 0, 5), (3, 1, 7)], (2, 0, 0, 1))
        self.assertEqual(ro.frames_enough(sky, (1, 0, 0), 0, 0, 0), 1)
        self.assertEqual(ro.slowest_pair(sky, (1, 0, 0), 0, 0, 0), ((0, 0, 0), (0, 0, 1)))

    def test_full_sky_of_the_greatest_side(self):
        sky = some_sky(5, 9, (4, 0, 0, 1), 20)
        frames, pair = ro.frames_enough(sky, (0, 1, 1), 20, 20, 0), ro.slowest_pair(sky, (0, 1, 1), 20, 20, 0)
        self.assertEqual(self.plain_frames(sky, pair, (0, 1, 1), 40), frames)


class WholeFileTest(CallsTest, unittest.TestCase):

    SKY = EXAMPLE
    ATTITUDES = [(told, (InvalidAttitude, {"attitude": told})) for told in no_attitudes(5)]
    COMMANDS = [(told, (InvalidCommand, {"command": told})) for told in no_commands(5)]
    ROWS = [([(4, -4, 3), told, (9, 9, 9)], (InvalidCommand, {"command": told})) for told in no_commands(5)]
    SIGHTINGS = [([(), told], (InvalidSighting, {})) for told in no_sightings(EXAMPLE)]
    TWO = [(0, ATTITUDES), (1, ATTITUDES[::-1]), (2, ROWS)]
    CALLS = [(ro.course, [(4, 4, 3), [(1, 0, 0)]], [(0, ATTITUDES), (1, ROWS)]),
             (ro.row_need, [(4, 4, 3), [(1, 0, 0)], [(), ()]], [(0, ATTITUDES), (1, ROWS), (2, SIGHTINGS)]),
             (ro.beginnings, [[(1, 0, 0)], [(), ((0, 0, 5),)], 1, 1], [(0, ROWS), (1, SIGHTINGS)]),
             (ro.beginnings, [[(1, 0, 0)], [(), ((0, 0, 5),)], 1, 1, (1, 0)], [(0, ROWS), (1, SIGHTINGS)]),
             (ro.row_lacks, [(4, 4, 3), (0, 0, 0), [(1, 0, 0)]], TWO),
             (ro.are_confusable_over, [(4, 4, 3), (0, 0, 0), [(1, 0, 0)], 0, 1, (1, 1)], TWO),
             (ro.confusing_sightings, [(4, 4, 3), (0, 0, 0), [(1, 0, 0)], 0, 1, (1, 1)], TWO),
             (ro.confusing_sightings, [(4, 4, 3), (0, 0, 0), [(1, 0, 0)], 20, 20], TWO),
             (ro.quickest_row, [(4, 4, 3), (0, 0, 0), [(1, 0, 0)], 0, 1], TWO),
             (ro.standstill, [(4, 4, 3), (4, 4, 3), [(1, 0, 0)]], TWO),
             (ro.check_standstill, [(4, 4, 3), (0, 0, 0), [(1, 0, 0)], [((9, 9, 9), (9, 9, 9))]], TWO),
             (ro.frames_enough, [(1, 0, 0), 0, 1, 1], [(0, COMMANDS)]),
             (ro.slowest_pair, [(1, 0, 0), 0, 1, 1], [(0, COMMANDS)])]

    def test_first_sighting_that_is_wrong(self):
        for told in no_sightings(EXAMPLE):
            for sightings in ([told, ()], [(), told], [told, told]):
                self.assertEqual(what_is_raised(ro.row_need, EXAMPLE, (0, 0, 0), [(1, 0, 0)], sightings),
                                 (InvalidSighting, {}))

    def test_answers_are_new(self):
        for call, given, _ in self.CALLS:
            was = call(EXAMPLE, *given)
            if isinstance(was, list):
                call(EXAMPLE, *given).append(0)
                self.assertEqual(call(EXAMPLE, *given), was)

    def test_examples(self):
        self.assertEqual(ro.course(EXAMPLE, (0, 0, 1), [(1, 0, 0), (0, 0, 1)]), [(0, 0, 1), (0, 1, 1), (0, 1, 2)])
        self.assertEqual(ro.row_lacks(EXAMPLE, (0, 0, 0), (0, 0, 1), [(0, 0, 0)]), [(1, 1), (1, 1)])
        self.assertEqual([ro.are_confusable_over(EXAMPLE, (0, 0, 0), (0, 0, 1), [(0, 0, 0)], 1, false)
                          for false in (0, 1)], [False, True])
        self.assertEqual(len(ro.quickest_row(EXAMPLE, (0, 0, 0), (0, 0, 1), [(0, 0, 0)], 1, 1)), 2)


if __name__ == "__main__":
    unittest.main()
