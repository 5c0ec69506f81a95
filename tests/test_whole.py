"""Tests of starward.whole: points [41] to [43] and [46], and the interface."""

import unittest
from fractions import Fraction
from itertools import product
from math import ceil

from starward import whole as wh
from starward.attitudes import motions, moved
from starward.confuse import unlikeness
from starward.errors import InvalidMotion, NotWhole
from starward.sky import Sky
from starward.sure import distances, least_distance
from tests.plain import (all_cameras, changed_by, no_attitudes, plain_far, some_sky, turned_often, what_is_raised)

EXAMPLE = Sky(5, [(0, 0, 5), (1, 0, 5), (3, 1, 5)], (2, 0, 0, 1))


def whole_skies():
    """Return whole skies, among them such with stars below the limit and none at all."""
    skies = [EXAMPLE, Sky(5, [], (2, 0, 0, 1)), Sky(5, [(2, 2, 3)], (2, 0, 0, 4)), Sky(5, [(2, 2, 4)], (2, 0, 0, 4))]
    for seed, (side, limit, many) in enumerate([(5, 1, 20), (5, 5, 14), (7, 3, 20), (7, 8, 20), (9, 1, 20)]):
        skies.append(some_sky(seed, side, (side // 2, 0, 0, limit), many))
    # A shift along rows keeps more than a turn does; in the second one the more steps the fewer.
    skies.append(Sky(5, [(x, y, 5 + y) for x, y in product(range(5), range(3))], (2, 0, 0, 1)))
    skies.append(Sky(7, [(x, y, 5 + y) for x, y in product(range(5), range(4))], (3, 0, 0, 1)))
    skies.append(Sky(7, [(y, x, 5 + y) for x, y in product(range(5), range(4))], (3, 0, 0, 1)))
    skies.append(Sky(5, [(0, 0, 1), (1, 0, 1), (1, 1, 1), (2, 2, 1), (3, 0, 1), (3, 1, 1)], (2, 0, 0, 1)))
    skies.append(Sky(5, [(x, y, 5) for x, y in product(range(5), range(4))], (2, 0, 0, 5)))
    skies.append(Sky(5, [(0, 0, b) for b in range(1, 10)] + [(1, 2, 9)], (2, 0, 0, 3)))
    return skies


def plain_kept(sky, motion):
    """Return the tuples of a star from the limit on and the star to which the motion takes it."""
    found = []
    for number, star in enumerate(sky.stars):
        x, y = turned_often(motion[2], star[:2])
        goal = ((x + motion[0]) % sky.side, (y + motion[1]) % sky.side, star[2])
        if star[2] >= sky.limit and goal in sky.stars:
            found.append((number, sky.stars.index(goal)))
    return found


class WholeTest(unittest.TestCase):

    def test_just_not_whole(self):
        for side in range(4, 10):
            for camera in all_cameras(side):
                right = camera[:3] == ((side - 1) / 2, 0, 0)
                self.assertIs(wh.is_whole(Sky(side, [(0, 0, 5)], camera)), right)
        for camera, right in [((2, 0, 0, 1), True), ((1, 0, 0, 1), False), ((2, 0, 1, 1), False),
                              ((1, 1, 0, 1), False)]:
            self.assertIs(wh.is_whole(Sky(5, [], camera)), right)

    def test_kept_against_all_motions(self):
        for sky in whole_skies():
            tables = [wh.kept_table(sky, quarter) for quarter in range(4)]
            self.assertEqual([(len(table), {len(row) for row in table}) for table in tables],
                             [(sky.side, {sky.side})] * 4)
            for motion in motions(sky):
                expected = plain_kept(sky, motion)
                self.assertEqual(wh.kept(sky, motion), expected)
                self.assertEqual(tables[motion[2]][motion[0]][motion[1]], len(expected))

    def test_unlikeness_of_moved_attitudes(self):
        # Point [42]: it is the same for all attitudes.
        for sky in whole_skies()[:7]:
            many = len([star for star in sky.stars if star[2] >= sky.limit])
            for motion in motions(sky)[::7]:
                for attitude in [(0, 0, 0), (1, 3, 2), (4, 2, 1)]:
                    self.assertEqual(unlikeness(sky, attitude, moved(sky, attitude, motion)),
                                     many - len(wh.kept(sky, motion)))

    def test_distance_is_that_of_all_far_pairs(self):
        found = set()
        for sky in whole_skies():
            told = [wh.whole_distance(sky, slack) for slack in range(10)]
            half = sky.side // 2
            found.add(len(set(told)))
            self.assertEqual(told[:half + 1], distances(sky))
            self.assertEqual(told[half:], told[half:half + 1] * (10 - half))
        self.assertEqual(found, {1, 2, 3})
        self.assertEqual(wh.whole_distance(EXAMPLE, 9), least_distance(EXAMPLE, 9)[0])

    def test_distance_against_all_motions(self):
        for sky, slack in product(whole_skies(), (0, 1, 2, 9)):
            many = len([star for star in sky.stars if star[2] >= sky.limit])
            far = [motion for motion in motions(sky) if plain_far(sky, (0, 0, 0), motion, slack)]
            self.assertEqual(wh.whole_distance(sky, slack), many - max(len(plain_kept(sky, motion)) for motion in far))

    def test_bounds(self):
        for sky in whole_skies():
            shifts = sum(len(plain_kept(sky, motion)) for motion in motions(sky) if motion[2] == 0 and any(motion[:2]))
            halves = sum(len(plain_kept(sky, motion)) for motion in motions(sky) if motion[2] == 2)
            many = len([star for star in sky.stars if star[2] >= sky.limit])
            places = sky.side * sky.side
            expected = (many - ceil(Fraction(shifts, places - 1)), many - ceil(Fraction(halves, places)))
            self.assertEqual(wh.distance_bound(sky), expected)
            self.assertLessEqual(wh.whole_distance(sky, 0), expected[0])
            self.assertLessEqual(wh.whole_distance(sky, 9), expected[1])

    def test_bound_that_needs_no_rounding(self):
        # 25 / 25 and 20 / 24 stars that are kept by a motion in the mean.
        sky = Sky(5, [(x, 0, 9) for x in range(5)], (2, 0, 0, 1))
        self.assertEqual(wh.distance_bound(sky), (4, 4))
        self.assertEqual(wh.distance_bound(Sky(5, [], (2, 0, 0, 1))), (0, 0))

    def test_level_skies(self):
        # A difference family: each shift but (0, 0) keeps one star.
        level = Sky(5, [(0, 0, 5), (0, 1, 5), (1, 0, 5), (2, 2, 5), (0, 0, 6), (0, 2, 6), (2, 0, 6), (4, 4, 6)],
                    (2, 0, 0, 1))
        self.assertEqual((wh.is_level(level), wh.distance_bound(level), wh.whole_distance(level, 0)), (True, (7, 6), 4))

        for sky in whole_skies():
            counts = {len(plain_kept(sky, motion)) for motion in motions(sky) if motion[2] == 0 and any(motion[:2])}
            self.assertIs(wh.is_level(sky), len(counts) == 1)
        self.assertIs(wh.is_level(Sky(5, [(1, 1, 4)], (2, 0, 0, 1))), True)
        self.assertIs(wh.is_level(Sky(5, [(1, 1, 4), (2, 2, 5)], (2, 0, 0, 1))), True)
        self.assertIs(wh.is_level(Sky(5, [(1, 1, 4), (2, 2, 4)], (2, 0, 0, 1))), False)
        self.assertIs(wh.is_level(Sky(5, [(1, 1, 4), (2, 2, 4)], (2, 0, 0, 5))), True)

    def test_full_sky_of_the_greatest_side(self):
        sky = some_sky(3, 9, (4, 0, 0, 1), 20)
        self.assertEqual([wh.whole_distance(sky, slack) for slack in range(5)], distances(sky))


class ErrorTest(unittest.TestCase):

    def test_not_whole_comes_first(self):
        for camera in [(1, 0, 0, 1), (2, 0, 1, 1), (1, 1, 0, 1)]:
            sky = Sky(5, [(0, 0, 5)], camera)
            for call, given in [(wh.kept, [(0, 0, 0)]), (wh.kept, [(5, 0, 0)]), (wh.kept_table, [0]),
                                (wh.whole_distance, [0]), (wh.distance_bound, []), (wh.is_level, [])]:
                self.assertEqual(what_is_raised(call, sky, *given), (NotWhole, {}))
                self.assertFalse(changed_by(call, sky, *given))

    def test_no_motions(self):
        for told in no_attitudes(5):
            self.assertEqual(what_is_raised(wh.kept, EXAMPLE, told), (InvalidMotion, {"motion": told}))

    def test_answers_are_new(self):
        for call, given in [(wh.kept, [(0, 0, 0)]), (wh.kept_table, [1])]:
            was = call(EXAMPLE, *given)
            call(EXAMPLE, *given).clear()
            if call is wh.kept_table:
                call(EXAMPLE, *given)[0][0] = 99
            self.assertEqual(call(EXAMPLE, *given), was)
            self.assertFalse(changed_by(call, EXAMPLE, *given))

    def test_examples(self):
        self.assertEqual(wh.kept(EXAMPLE, (1, 0, 2)), [(0, 1), (1, 0)])
        self.assertEqual([wh.whole_distance(EXAMPLE, 0), wh.distance_bound(EXAMPLE)], [1, (2, 2)])

if __name__ == "__main__":
    unittest.main()
