"""Tests of starward.plans: points [60], [61], [63] to [66] and [76], and the interface."""

import unittest
from functools import cache
from itertools import product

from starward import plans as pl
from starward.alike import still_motions
from starward.attitudes import attitudes, motion_between, motions, moved
from starward.confuse import are_confusable, unlikeness
from starward.errors import InvalidAttitude, InvalidCommand, InvalidMotion
from starward.sightings import can_be
from starward.sky import Sky, check_sighting
from starward.sure import is_sure, least_distance
from starward.turns import reached
from tests.plain import (CallsTest, changed_by, far_pairs, no_attitudes, no_commands, no_sightings, plain_course,
                         plain_far, plain_led, plain_unlikeness, some_row, some_sky)

EXAMPLE = Sky(5, [(0, 0, 9), (1, 0, 4)], (1, 0, 0, 1))
ALL_WAYS = [(1, 0, 0), (0, 1, 0), (0, 0, 1)]
CHOICES = [ALL_WAYS, [(1, 0, 0)], [(0, 0, 0)], [(0, 1, 0), (2, 0, 0)], [(1, 0, 1)], [(0, 0, 2), (1, 1, 0)],
           [(1, 2, 0), (2, 1, 0), (1, 1, 1), (0, 0, 3), (-1, 0, 0), (0, -1, 0), (3, 3, 3), (0, 0, 0)]]


@cache
def small_skies():
    """Return skies of the side 4: sparse ones, one without stars, and one that is sure by turning only."""
    return [Sky(4, [], (1, 0, 0, 1)), Sky(4, [(0, 0, 9)], (0, 0, 0, 1)), some_sky(1, 4, (1, 0, 0, 4), 5),
            Sky(4, [(0, 0, 9), (1, 0, 4)], (1, 0, 0, 1)), Sky(4, [(0, 0, 9), (1, 0, 4), (3, 2, 4)], (0, 0, 1, 4)),
            some_sky(3, 4, (1, 0, 1, 2), 12), Sky(4, [(x, y, 3 + x) for x, y in product(range(4), repeat=2)],
                                                  (1, 0, 0, 1))]


@cache
def unlike(sky, one, other):
    """Return the unlikeness; it is tested against a plain search below."""
    return unlikeness(sky, one, other)


@cache
def places_told(sky, row, one, other, bound):
    """Return the number of the first frame in which the two are not confusable, or None."""
    for frame, pair in enumerate(zip(plain_course(sky, one, row), plain_course(sky, other, row))):
        if unlike(sky, *pair) > bound:
            return frame
    return None


@cache
def led_pairs(sky, one, other, commands):
    """Return a dict from all pairs that rows lead to, to the least number of commands of such a row."""
    found = {(one, other): 0}
    edge = [(one, other)]
    while edge:
        behind = []
        for first, second in edge:
            for command in commands:
                pair = (plain_led(sky, first, command)[0], plain_led(sky, second, command)[0])
                if pair not in found:
                    found[pair] = found[(first, second)] + 1
                    behind.append(pair)
        edge = behind
    return found


@cache
def telling_lengths(sky, slack, commands, bound):
    """Return a dict from all far pairs to how many commands a shortest row has that tells them apart, or None."""
    return {pair: min([many for led, many in led_pairs(sky, *pair, commands).items() if unlike(sky, *led) > bound],
                      default=None) for pair in far_pairs(sky, slack)}


class TellsTest(unittest.TestCase):

    def test_unlikeness_against_all_lots(self):
        for sky in small_skies():
            for pair in far_pairs(sky, 0)[::97]:
                self.assertEqual(unlike(sky, *pair), plain_unlikeness(sky, *pair))

    def test_first_frame(self):
        found = set()
        for seed, sky in enumerate([*small_skies(), EXAMPLE]):
            for many in (0, 1, 4):
                row = some_row(seed + many, sky.side, many)
                for one, other in [*far_pairs(sky, 0)[::53], (attitudes(sky)[0],) * 2]:
                    for missing, false in [(0, 0), (1, 0), (0, 1), (1, 2)]:
                        expected = places_told(sky, tuple(row), one, other, missing + false)
                        self.assertEqual(pl.tells(sky, row, one, other, missing, false), expected)
                        found.add(expected)
        self.assertTrue({None, 0, 1} <= found)

    def test_far_pairs_stay_far(self):
        row = some_row(1, 5, 6)
        for one, other in far_pairs(EXAMPLE, 1)[::41]:
            pairs = list(zip(plain_course(EXAMPLE, one, row), plain_course(EXAMPLE, other, row)))
            self.assertTrue(all(plain_far(EXAMPLE, *pair, 1) for pair in pairs))
            self.assertEqual(len({motion_between(EXAMPLE, *pair) for pair in pairs}), 1)

    def test_first_of_the_shortest_rows(self):
        for sky, commands in product([*small_skies()[2:5], EXAMPLE], CHOICES[:6]):
            for one, other in far_pairs(sky, 0)[::211]:
                for bound in (0, 1):
                    told = pl.telling_row(sky, one, other, commands, bound, 0)
                    rows = [list(row) for many in range(4) for row in product(commands, repeat=many)]
                    right = [row for row in rows
                             if places_told(sky, tuple(row), one, other, bound) is not None]
                    if right:
                        self.assertEqual(told, right[0])
                    elif told is not None:
                        self.assertGreater(len(told), 3)
                        self.assertEqual(places_told(sky, tuple(told), one, other, bound), len(told))
                        least = [many for led, many in led_pairs(sky, one, other, tuple(commands)).items()
                                 if unlike(sky, *led) > bound]
                        self.assertEqual(len(told), min(least))

    def test_rows_and_closed_lots_exclude_each_other(self):
        # Point [64].
        found = set()
        for sky, commands in product([*small_skies(), EXAMPLE], CHOICES):
            for one, other in [*far_pairs(sky, 0)[::151], (attitudes(sky)[3],) * 2]:
                for missing, false in [(0, 0), (1, 1)]:
                    given = (sky, one, other, commands, missing, false)
                    row, lot = pl.telling_row(*given), pl.closed_lot(*given)
                    self.assertIs(row is None, lot is not None)
                    found.add(row is None)
                    if lot is None:
                        self.assertIs(pl.tells(sky, row, one, other, missing, false) is None, False)
                        continue
                    self.assertEqual([(first, second) for first, second, _ in lot],
                                     sorted(led_pairs(sky, one, other, tuple(commands))))
                    for first, second, sighting in lot:
                        self.assertIsNone(check_sighting(sky, sighting))
                        self.assertIs(can_be(sky, first, sighting, missing, false), True)
                        self.assertIs(can_be(sky, second, sighting, missing, false), True)
                    self.assertIs(pl.check_closed(*given, lot), True)
                    self.assertIs(pl.check_closed(*given, lot[::-1]), True)
        self.assertEqual(found, {True, False})


class CheckClosedTest(unittest.TestCase):

    ONE, OTHER = (3, 3, 0), (3, 2, 0)
    SKY = EXAMPLE

    def check(self, lot, right, missing=0, false=0, commands=((1, 0, 0),)):
        """Check what is told of a lot."""
        told = pl.check_closed(self.SKY, self.ONE, self.OTHER, list(commands), missing, false, lot)
        self.assertIs(told, right)

    def test_lots_that_are_none(self):
        lot = pl.closed_lot(self.SKY, self.ONE, self.OTHER, [(1, 0, 0)], 0, 0)
        self.check(lot, True)
        self.check([], False)
        for place, (one, other, sighting) in enumerate(lot):
            self.check(lot[:place] + lot[place + 1:], False)
            self.check([*lot, (one, other, sighting)], False)
            self.check([*lot, (one, other, ())], False)
            self.check([*lot[:place], (other, one, sighting), *lot[place + 1:]], False)
            self.check([*lot[:place], (one, other, ((0, 0, 9),)), *lot[place + 1:]], False)
        self.check(lot, False, commands=[(1, 0, 0), (0, 1, 0)])
        self.check(lot, True, commands=[(2, 0, 0), (0, 0, 0)])
        # Another closed lot beside it, also of one attitude twice.
        more = pl.closed_lot(self.SKY, (0, 0, 1), (0, 0, 1), [(1, 0, 0)], 0, 0)
        self.check([*more, *lot], True)
        self.check([*more[1:], *lot], False)
        self.check(more, False)

    def test_bounds_just_reached_and_just_missed(self):
        lot = pl.closed_lot(self.SKY, self.ONE, self.OTHER, [(1, 0, 0)], 0, 0)
        false = [(one, other, ((0, 0, 9),)) for one, other, _ in lot]
        self.check(false, True, false=1)
        self.check(false, False, missing=20)
        lots = pl.closed_lot(self.SKY, (0, 0, 0), (0, 0, 1), [(0, 0, 0)], 1, 0)
        self.assertEqual(len(lots), 1)
        for missing, right in [(1, True), (0, False)]:
            told = pl.check_closed(self.SKY, (0, 0, 0), (0, 0, 1), [(0, 0, 0)], missing, 0, lots)
            self.assertIs(told, right)
        self.assertIsNone(pl.closed_lot(self.SKY, (0, 0, 0), (0, 0, 1), [(0, 0, 0)], 0, 0))

    def test_sighting_that_lets_only_one_be(self):
        one, other = (0, 0, 0), (0, 0, 1)
        for sighting, right in [(((0, 0, 9),), True), (((0, 0, 9), (1, 0, 4)), False),
                                (((0, -1, 4), (0, 0, 9)), False)]:
            for pair in ((one, other), (other, one)):
                told = pl.check_closed(EXAMPLE, *pair, [(0, 0, 0)], 1, 0, [(*pair, sighting)])
                self.assertIs(told, right)

    def test_no_attitudes_and_no_sightings(self):
        lot = pl.closed_lot(self.SKY, self.ONE, self.OTHER, [(1, 0, 0)], 0, 0)
        for bad in [*no_attitudes(5), (5, 3, 0), (-2, 3, 0)]:
            self.check([*lot, (bad, self.ONE, ())], False, 20, 20)
            self.check([(self.ONE, bad, ()), *lot], False, 20, 20)
        for bad in no_sightings(self.SKY):
            one, other, _ = lot[0]
            self.check([(one, other, bad), *lot[1:]], False, 20, 20)


class MotionTest(unittest.TestCase):

    def test_places_and_hidden_motions(self):
        for sky in [*small_skies(), EXAMPLE]:
            for bound in (0, 1, 3):
                hidden = []
                for motion in motions(sky):
                    told = pl.telling_places(sky, motion, bound, 0)
                    self.assertEqual(pl.telling_places(sky, motion, 0, bound), told)
                    # The quarter of the attitude does not matter.
                    for quarter in (0, 3) if motion[0] == 1 else (0,):
                        there = [(x, y) for x in range(sky.side) for y in range(sky.side)
                                 if unlike(sky, (x, y, quarter), moved(sky, (x, y, quarter), motion)) > bound]
                        self.assertEqual(told, there)
                    if not told:
                        hidden.append(motion)
                self.assertEqual(pl.hidden_motions(sky, bound, 0), hidden)
                self.assertEqual(pl.hidden_motions(sky, 0, bound), hidden)
                self.assertTrue(set(still_motions(sky)) <= set(hidden))
                self.assertIn((0, 0, 0), hidden)

    def test_hidden_ones_are_the_still_ones_without_errors(self):
        # Point [74].
        for seed in range(8):
            sky = some_sky(seed, 5, (1, 0, 0, 4), seed)
            self.assertEqual(pl.hidden_motions(sky, 0, 0), still_motions(sky))
        blurred = some_sky(1, 5, (1, 1, 0, 1), 5)
        self.assertGreater(len(pl.hidden_motions(blurred, 0, 0)), len(still_motions(blurred)))

    def test_sure_and_sure_by_turning(self):
        # Point [65].
        for sky, slack, bound in product([*small_skies(), EXAMPLE, some_sky(3, 5, (2, 0, 0, 1), 9)], (0, 1), (0, 1)):
            far = [motion for motion in motions(sky) if plain_far(sky, (0, 0, 0), motion, slack)]
            told = [pl.telling_places(sky, motion, bound, 0) for motion in far]
            self.assertIs(is_sure(sky, slack, bound, 0), all(len(places) == sky.side ** 2 for places in told))
            by_turning = pl.never_told(sky, slack, ALL_WAYS, bound, 0) is None
            self.assertIs(by_turning, all(places for places in told))


class UntoldTest(unittest.TestCase):

    def test_untold(self):
        for seed, sky in enumerate([*small_skies(), EXAMPLE]):
            for many, slack, bound in product((0, 2, 5), (0, 1, 9), (0, 2)):
                row = some_row(seed + many, sky.side, many)
                told = [pair for pair in far_pairs(sky, slack)
                        if places_told(sky, tuple(row), *pair, bound) is None]
                self.assertEqual(pl.untold(sky, row, slack, bound, 0), told)
                self.assertEqual(pl.untold(sky, row, slack, 0, bound), told)

    def test_never_told_and_longest(self):
        found = set()
        for sky, commands, slack, bound in product(small_skies(), CHOICES[:6], (0, 1), (0, 1)):
            told = telling_lengths(sky, slack, tuple(commands), bound)
            never = min([pair for pair, many in told.items() if many is None], default=None)
            longest = max([many for many in told.values() if many is not None], default=0)
            self.assertEqual(pl.never_told(sky, slack, commands, bound, 0), never)
            self.assertEqual(pl.longest_telling(sky, slack, commands, bound, 0), longest)
            found.add((never is None, longest > 1))
        self.assertEqual(len(found), 4)

    def test_never_told_and_longest_with_many_commands(self):
        for sky, commands in product([EXAMPLE, small_skies()[6]], CHOICES[3:]):
            told = {pair: pl.telling_row(sky, *pair, commands, 0, 0) for pair in far_pairs(sky, 0)[::7]}
            never = pl.never_told(sky, 0, commands, 0, 0)
            if never is None:
                self.assertNotIn(None, told.values())
            else:
                self.assertIsNone(pl.telling_row(sky, *never, commands, 0, 0))
                self.assertTrue(all(pair >= never for pair, row in told.items() if row is None))
            longest = pl.longest_telling(sky, 0, commands, 0, 0)
            self.assertLessEqual(max([len(row) for row in told.values() if row is not None], default=0), longest)

    def test_finding_rows(self):
        found = set()
        skies = [*small_skies(), EXAMPLE, some_sky(3, 5, (2, 0, 0, 1), 9), Sky(5, [(0, 0, 1), (1, 0, 2)], (0, 0, 0, 1))]
        for sky, commands, slack, bound in product(skies, CHOICES, (0, 2), (0, 1)):
            row = pl.finding_row(sky, slack, commands, bound, 0)
            self.assertEqual(pl.finding_row(sky, slack, commands, 0, bound) is None, row is None)
            if row is not None:
                self.assertEqual(pl.untold(sky, pl.finding_row(sky, slack, commands, 0, bound), slack, 0, bound), [])
            # Point [66]: exactly one of the two is so.
            self.assertIs(row is None, pl.never_told(sky, slack, commands, bound, 0) is not None)
            if row is not None:
                self.assertLessEqual(len(row), 2000)
                self.assertTrue(all(command in commands for command in row))
                self.assertEqual(pl.untold(sky, row, slack, bound, 0), [])
                self.assertGreaterEqual(len(row), pl.longest_telling(sky, slack, commands, bound, 0))
                # Commands ahead of it or behind it do no harm.
                self.assertEqual(pl.untold(sky, [commands[0], *row, commands[-1]], slack, bound, 0), [])
                if row:
                    self.assertNotEqual(pl.untold(sky, row[:-1], slack, bound, 0), [])
            found.add(None if row is None else min(len(row), 3))
        self.assertTrue({None, 0, 3} <= found)

    def test_sure_sky_is_found_without_commands(self):
        sky = some_sky(3, 5, (2, 0, 0, 1), 20)
        number = least_distance(sky, 0)[0]
        self.assertEqual(pl.finding_row(sky, 0, ALL_WAYS, number - 1, 0), [])
        self.assertIsNone(pl.finding_row(sky, 0, [(0, 0, 0)], number, 0))

    def test_full_skies_of_the_greatest_side(self):
        row = some_row(1, 9, 2000)
        for camera, many in [((4, 0, 0, 1), 20), ((1, 0, 0, 1), 20), ((0, 0, 0, 1), 2), ((2, 2, 2, 1), 20),
                             ((1, 0, 0, 1), 0)]:
            sky = some_sky(7, 9, camera, many)
            for commands in (ALL_WAYS, CHOICES[-1], [(1, 0, 0)]):
                found = pl.finding_row(sky, 0, commands, 0, 0)
                never = pl.never_told(sky, 0, commands, 0, 0)
                self.assertIs(found is None, never is not None)
                if found is None:
                    self.assertIsNone(pl.telling_row(sky, *never, commands, 0, 0))
                    self.assertIs(pl.check_closed(sky, *never, commands, 0, 0,
                                                  pl.closed_lot(sky, *never, commands, 0, 0)), True)
                else:
                    self.assertLessEqual(len(found), 2000)
                    self.assertEqual(pl.untold(sky, found, 0, 0, 0), [])
                self.assertIsInstance(pl.longest_telling(sky, 0, commands, 0, 0), int)
            left = pl.untold(sky, row, 0, 0, 0)
            self.assertEqual(left, sorted(left))
            for one, other in left[::4001]:
                self.assertIsNone(pl.tells(sky, row, one, other, 0, 0))

    def test_by_commands_that_reach_all(self):
        # Point [65]: two attitudes can be told apart exactly if the motion is not hidden.
        for sky in [EXAMPLE, small_skies()[3]]:
            self.assertEqual(reached(sky, (0, 0, 0), ALL_WAYS), attitudes(sky))
            hidden = pl.hidden_motions(sky, 1, 0)
            for one, other in far_pairs(sky, 0)[::61]:
                told = pl.telling_row(sky, one, other, ALL_WAYS, 1, 0)
                self.assertIs(told is None, motion_between(sky, one, other) in hidden)
                self.assertIs(are_confusable(sky, one, other, 1, 0), told != [])


class WholeFileTest(CallsTest, unittest.TestCase):

    SKY = EXAMPLE
    ATTITUDES = [(told, (InvalidAttitude, {"attitude": told})) for told in no_attitudes(5)]
    MOTIONS = [(told, (InvalidMotion, {"motion": told})) for told in no_attitudes(5)]
    ROWS = [([(4, -4, 3), told, (9, 9, 9)], (InvalidCommand, {"command": told})) for told in no_commands(5)]
    TWO = [(0, ATTITUDES), (1, ATTITUDES[::-1]), (2, ROWS)]
    GIVEN = [(4, 4, 3), (0, 0, 0), [(1, 0, 0)], 0, 1]
    LOT = [((9, 9, 9), (0, 0, 0), ((9, 9, 9),))]
    CALLS = [(pl.tells, [[(1, 0, 0)], (4, 4, 3), (0, 0, 0), 0, 1], [(0, ROWS), (1, ATTITUDES), (2, ATTITUDES[::-1])]),
             (pl.telling_row, GIVEN, TWO), (pl.closed_lot, GIVEN, TWO), (pl.check_closed, [*GIVEN, LOT], TWO),
             (pl.telling_places, [(4, 4, 3), 0, 1], [(0, MOTIONS)]),
             (pl.untold, [[(1, 0, 0)], 1, 0, 1], [(0, ROWS)]),
             (pl.finding_row, [1, [(1, 0, 0)], 0, 1], [(1, ROWS)]),
             (pl.never_told, [1, [(1, 0, 0)], 0, 1], [(1, ROWS)]),
             (pl.longest_telling, [1, [(1, 0, 0)], 0, 1], [(1, ROWS)])]

    def test_more_calls_change_nothing(self):
        lot = pl.closed_lot(EXAMPLE, (3, 3, 0), (3, 2, 0), [(1, 0, 0)], 0, 0)
        self.assertFalse(changed_by(pl.check_closed, EXAMPLE, (3, 3, 0), (3, 2, 0), [(1, 0, 0)], 0, 0, lot))
        self.assertFalse(changed_by(pl.hidden_motions, EXAMPLE, 0, 0))
        self.assertFalse(changed_by(pl.finding_row, small_skies()[6], 0, ALL_WAYS, 0, 0))
        for call, given in [(pl.telling_row, [(3, 3, 0), (4, 3, 0), ALL_WAYS, 0, 0]), (pl.hidden_motions, [0, 0]),
                            (pl.closed_lot, [(3, 3, 0), (3, 2, 0), [(1, 0, 0)], 0, 0]),
                            (pl.telling_places, [(1, 0, 0), 0, 0]), (pl.untold, [[], 0, 0, 0])]:
            was = call(EXAMPLE, *given)
            self.assertTrue(was)
            call(EXAMPLE, *given).clear()
            self.assertEqual(call(EXAMPLE, *given), was)

    def test_examples(self):
        self.assertEqual(pl.telling_row(EXAMPLE, (3, 3, 0), (4, 3, 0), [(1, 0, 0), (0, 1, 0)], 0, 0), [(0, 1, 0)])
        self.assertEqual(pl.closed_lot(EXAMPLE, (3, 3, 0), (3, 2, 0), [(1, 0, 0)], 0, 0)[0],
                         ((0, 3, 0), (0, 2, 0), ()))
        self.assertEqual((len(pl.telling_places(EXAMPLE, (1, 0, 0), 0, 0)), pl.hidden_motions(EXAMPLE, 0, 0)),
                         (15, [(0, 0, 0)]))


if __name__ == "__main__":
    unittest.main()
