"""Tests of starward.blur: points [26] to [28], and the interface."""

import unittest
from itertools import product
from random import Random

from starward import blur as bl
from starward.attitudes import attitudes, sure_stars
from starward.errors import InvalidAttitude, InvalidSighting, InvalidSky
from starward.sightings import evidence, need
from starward.sky import Sky
from tests.plain import (CallsTest, all_cameras, all_matchings, all_parts, changed_by, left_out, no_attitudes,
                         no_sightings, plain_fits, plain_lack, plain_sure, plain_table, some_sighting, some_sky,
                         what_is_raised)

SKY = Sky(7, [(0, 0, 5), (1, 0, 5), (3, 0, 5)], (2, 0, 1, 3))
BOUNDS = [(0, 0), (1, 0), (0, 1), (1, 2), (2, 1), (20, 20)]


def plain_allowed(sky):
    """Return the ascending list of the tuples that are allowed."""
    return sorted({camera[1:3] for camera in all_cameras(sky.side) if camera[0] == sky.reach})


def other_sky(sky, blur, glare):
    """Return the sky with another blur and glare."""
    return Sky(sky.side, list(sky.stars), (sky.reach, blur, glare, sky.limit))


def plain_need(sky, attitude, sighting, blur, glare):
    """Return what the attitude needs with the blur and the glare, by a search through all matchings."""
    other = other_sky(sky, blur, glare)
    sure = plain_sure(other, attitude)
    every = all_matchings(plain_table(other, attitude, sighting))
    told = [left_out(matching, sure, len(sighting)) for matching in every]
    return tuple(map(min, zip(*told)))


def some_cases():
    """Return tuples (sky, attitude, sighting) with few stars and spots, the same ones each time."""
    cases = [(SKY, (0, 0, 0), ()), (SKY, (0, 0, 0), ((1, 0, 5), (1, 0, 5))), (Sky(4, [], (1, 0, 2, 1)), (0, 0, 0), ()),
             (Sky(4, [], (0, 0, 0, 1)), (0, 0, 0), ((0, 0, 1),))]
    chance = Random(12)
    for seed, (side, camera) in product(range(5), [(5, (1, 1, 2, 4)), (5, (2, 0, 1, 3)), (7, (1, 0, 0, 2)),
                                                   (4, (1, 0, 2, 8)), (9, (2, 1, 0, 4)), (9, (3, 0, 2, 6))]):
        few = [(x, y, b) for x in range(3) for y in range(2) for b in range(3, 10)]
        sky = Sky(side, chance.sample(few, chance.randrange(5)), camera)
        cases.append((sky, (chance.randrange(3), chance.randrange(2), seed % 4),
                      some_sighting(seed, sky, chance.randrange(4))))
    return cases


class AllowedTest(unittest.TestCase):

    def test_against_all_cameras(self):
        for side in range(4, 10):
            for camera in all_cameras(side):
                sky = Sky(side, [], camera)
                told = bl.allowed(sky)
                self.assertEqual(told, plain_allowed(sky))
                self.assertIn((sky.blur, sky.glare), told)

    def test_just_allowed_and_just_not(self):
        self.assertEqual(bl.allowed(Sky(9, [], (4, 0, 0, 1))), [(0, 0), (0, 1), (0, 2)])
        self.assertEqual(bl.allowed(Sky(9, [], (3, 0, 0, 1))), [(0, 0), (0, 1), (0, 2), (1, 0), (1, 1), (1, 2)])
        self.assertEqual(bl.allowed(Sky(8, [], (3, 0, 0, 1))), [(0, 0), (0, 1), (0, 2)])
        self.assertEqual(bl.allowed(Sky(9, [], (0, 0, 2, 9))), [(0, 0), (0, 1), (0, 2)])
        self.assertEqual(bl.allowed(Sky(9, [], (2, 2, 0, 1)))[-1], (2, 2))


class NeedWithTest(unittest.TestCase):

    def test_against_all_matchings(self):
        for sky, attitude, sighting in some_cases():
            for blur, glare in plain_allowed(sky):
                self.assertEqual(bl.need_with(sky, attitude, sighting, blur, glare),
                                 plain_need(sky, attitude, sighting, blur, glare))

    def test_own_blur_and_glare(self):
        for case in some_cases():
            self.assertEqual(bl.need_with(*case, case[0].blur, case[0].glare), need(*case))

    def test_spots_that_are_too_bright_stay(self):
        sky = Sky(5, [(0, 0, 9)], (1, 0, 2, 3))
        told = [bl.need_with(sky, (0, 0, 0), ((0, 0, 11),), 0, glare) for glare in range(3)]
        self.assertEqual(told, [(1, 1), (1, 1), (0, 0)])
        told = [bl.need_with(sky, (0, 0, 0), ((0, 0, 10),), 0, glare) for glare in range(3)]
        self.assertEqual(told, [(1, 1), (0, 0), (0, 0)])

    def test_greater_errors_need_no_more(self):
        for sky, attitude, sighting in some_cases():
            told = bl.allowed(sky)
            for (blur, glare), (more, brighter) in product(told, told):
                if blur <= more and glare <= brighter:
                    less, greater = [bl.need_with(sky, attitude, sighting, *each)
                                     for each in [(blur, glare), (more, brighter)]]
                    self.assertTrue(greater[0] <= less[0] and greater[1] <= less[1])
                    narrow, wide = other_sky(sky, blur, glare), other_sky(sky, more, brighter)
                    self.assertTrue(set(sure_stars(wide, attitude)) <= set(sure_stars(narrow, attitude)))
                    for star, spot in product(sky.stars, sighting):
                        self.assertTrue(plain_fits(wide, attitude, star, spot)
                                        or not plain_fits(narrow, attitude, star, spot))


class ErrorStepsTest(unittest.TestCase):

    def test_against_all_allowed(self):
        several = 0
        for sky, attitude, sighting in some_cases():
            for missing, false in BOUNDS:
                can = []
                for blur, glare in plain_allowed(sky):
                    needs = plain_need(sky, attitude, sighting, blur, glare)
                    if needs[0] <= missing and needs[1] <= false:
                        can.append((blur, glare))
                steps = [(blur, glare) for blur, glare in can
                         if (blur - 1, glare) not in can and (blur, glare - 1) not in can]
                told = bl.error_steps(sky, attitude, sighting, missing, false)
                self.assertEqual(told, steps)
                # Point [27]: it can be exactly from some step on.
                self.assertEqual([each for each in plain_allowed(sky)
                                  if any(each[0] >= blur and each[1] >= glare for blur, glare in told)], can)
                several += len(told) > 1
        self.assertGreater(several, 0)

    def test_choice_between_blur_and_glare(self):
        sky = Sky(7, [(0, 0, 5), (1, 0, 6)], (2, 0, 0, 1))
        self.assertEqual(bl.error_steps(sky, (0, 0, 0), ((1, 0, 5),), 1, 0), [(0, 1), (1, 0)])
        self.assertEqual(bl.error_steps(sky, (0, 0, 0), ((1, 0, 5),), 20, 1), [(0, 0)])
        self.assertEqual(bl.error_steps(sky, (0, 0, 0), ((1, 0, 1),), 1, 0), [])


class LeastBlurTest(unittest.TestCase):

    def test_against_all_blurs_and_attitudes(self):
        found = set()
        for sky, _, sighting in some_cases()[::2]:
            for (missing, false), glare in product(BOUNDS[:4], range(3)):
                expected = None
                for blur in sorted({told for told, _ in plain_allowed(sky)}):
                    other = other_sky(sky, blur, glare)
                    can = [attitude for attitude in attitudes(sky)
                           if bl.need_with(sky, attitude, sighting, blur, glare)[0] <= missing
                           and bl.need_with(sky, attitude, sighting, blur, glare)[1] <= false]
                    if can and expected is None:
                        expected = (blur, can)
                        self.assertEqual(other.glare, glare)
                self.assertEqual(bl.least_blur(sky, sighting, missing, false, glare), expected)
                found.add(expected and expected[0])
        self.assertTrue({0, 1, None} <= found)

    def test_least_blur_is_two(self):
        sky = Sky(9, [(0, 0, 9), (1, 1, 9), (4, 4, 5)], (2, 0, 0, 1))
        self.assertEqual(bl.least_blur(sky, ((-2, 2, 9), (2, -2, 9)), 0, 0, 0)[0], 2)
        self.assertIsNone(bl.least_blur(sky, ((-2, 2, 9), (2, 0, 4)), 0, 0, 0))


class EvidenceTest(unittest.TestCase):

    def test_evidence(self):
        words = set()
        for sky, attitude, sighting in some_cases():
            for (blur, glare), (missing, false) in product(plain_allowed(sky), BOUNDS[:5]):
                other = other_sky(sky, blur, glare)
                table, sure = plain_table(other, attitude, sighting), plain_sure(other, attitude)
                needs = plain_need(sky, attitude, sighting, blur, glare)
                word, told = bl.blur_evidence(sky, attitude, sighting, missing, false, blur, glare)
                words.add(word)
                if needs[0] <= missing and needs[1] <= false:
                    self.assertEqual(word, "matching")
                    self.assertIn(told, all_matchings(table))
                    left = left_out(told, sure, len(sighting))
                    self.assertTrue(left[0] <= missing and left[1] <= false)
                    continue
                self.assertEqual(word, "stars" if needs[0] > missing else "spots")
                if word == "spots":
                    sure = list(range(len(sighting)))
                    table = [[star for star, spots in enumerate(table) if spot in spots] for spot in sure]
                greatest = max(plain_lack(table, lot) for lot in all_parts(sure))
                self.assertEqual(told, min([lot for lot in all_parts(sure) if plain_lack(table, lot) == greatest],
                                           key=len))
                self.assertGreater(greatest, missing if word == "stars" else false)
        self.assertEqual(words, {"matching", "stars", "spots"})

    def test_own_blur_and_glare(self):
        for case in some_cases():
            told = bl.blur_evidence(*case, 0, 0, case[0].blur, case[0].glare)
            if told[0] != "matching":
                self.assertEqual(told, evidence(*case, 0, 0))


class WholeFileTest(CallsTest, unittest.TestCase):

    SKY = SKY
    ATTITUDES = [(told, (InvalidAttitude, {"attitude": told})) for told in no_attitudes(7)]
    SIGHTINGS = [(told, (InvalidSighting, {})) for told in no_sightings(SKY)]
    # With the side 7 and the reach 2 a blur of 2 is too great.
    BLURS = [(told, (InvalidSky, {})) for told in (2, 3, -1)]
    GLARES = [(told, (InvalidSky, {})) for told in (3, -1)]
    FIRST = [(0, ATTITUDES), (1, SIGHTINGS)]
    CALLS = [(bl.need_with, [(6, 6, 3), ((0, 0, 5),), 1, 2], [*FIRST, (2, BLURS)]),
             (bl.need_with, [(6, 6, 3), ((0, 0, 5),), 1, 2], [*FIRST, (3, GLARES)]),
             (bl.error_steps, [(6, 6, 3), ((0, 0, 5),), 1, 1], FIRST),
             (bl.least_blur, [((0, 0, 5),), 1, 1, 2], [(0, SIGHTINGS), (3, GLARES)]),
             (bl.least_blur, [((0, 0, 5),), 20, 20, 2], [(0, SIGHTINGS), (3, GLARES)]),
             (bl.blur_evidence, [(6, 6, 3), ((0, 0, 5),), 0, 0, 1, 2], [*FIRST, (4, BLURS)]),
             (bl.blur_evidence, [(6, 6, 3), ((0, 0, 5),), 0, 0, 1, 2], [*FIRST, (5, GLARES)])]

    def test_all_tuples_that_are_not_allowed(self):
        for side, camera in [(4, (1, 0, 0, 1)), (9, (3, 1, 2, 1)), (9, (2, 0, 0, 1)), (5, (0, 0, 1, 9))]:
            sky = Sky(side, [(0, 0, 9)], camera)
            for blur, glare in product(range(-2, 5), repeat=2):
                expected = None if (blur, glare) in plain_allowed(sky) else (InvalidSky, {})
                self.assertEqual(what_is_raised(bl.need_with, sky, (0, 0, 0), (), blur, glare), expected)
                self.assertEqual(what_is_raised(bl.blur_evidence, sky, (0, 0, 0), (), 0, 0, blur, glare), expected)
            for glare in range(-2, 5):
                expected = None if (0, glare) in plain_allowed(sky) else (InvalidSky, {})
                self.assertEqual(what_is_raised(bl.least_blur, sky, (), 0, 0, glare), expected)

    def test_sightings_are_those_of_the_sky(self):
        # Its own glare of 1 lets spots be as bright as 10, whichever glare is asked for.
        self.assertEqual(what_is_raised(bl.need_with, SKY, (0, 0, 0), ((0, 0, 11),), 0, 2), (InvalidSighting, {}))
        self.assertIsNone(what_is_raised(bl.need_with, SKY, (0, 0, 0), ((0, 0, 10),), 0, 0))
        self.assertIsNone(what_is_raised(bl.blur_evidence, SKY, (0, 0, 0), ((0, 0, 10),), 0, 0, 0, 0))
        self.assertIsNone(what_is_raised(bl.least_blur, SKY, ((0, 0, 10),), 0, 0, 0))

    def test_nothing_more_is_changed(self):
        self.assertFalse(changed_by(bl.allowed, SKY))

    def test_sightings_of_60_spots(self):
        sky = some_sky(1, 9, (2, 0, 1, 3), 20)
        sighting = some_sighting(1, sky, 60)
        needs = [bl.need_with(sky, (4, 4, 1), sighting, *told) for told in bl.allowed(sky)]
        self.assertEqual(len(needs), 9)
        self.assertTrue(all(40 <= false <= 60 for _, false in needs))
        self.assertIsNone(bl.least_blur(sky, sighting, 20, 20, 2))
        self.assertEqual(bl.error_steps(sky, (4, 4, 1), sighting, 20, 20), [])


if __name__ == "__main__":
    unittest.main()
