"""Tests of starward.guides: points [37] to [40], [44] and [45], and the interface."""

import unittest
from functools import cache
from itertools import combinations_with_replacement, product
from random import Random

from starward import guides as gu
from starward.attitudes import attitudes, sure_stars
from starward.confuse import linked
from starward.errors import InvalidAttitude, InvalidSighting, TooLarge, UnknownStar
from starward.sightings import can_be, need, possible
from starward.sky import Sky, check_sighting
from starward.sure import least_distance
from tests.plain import (CallsTest, all_matchings, all_parts, changed_by, no_attitudes, no_sightings, plain_far,
                         plain_lack, plain_links, plain_spots, plain_sure, plain_table, some_sighting, some_sky,
                         what_is_raised)

EXAMPLE = Sky(5, [(0, 0, 3), (1, 0, 5), (3, 1, 7)], (2, 0, 0, 1))
BOUNDS = [(0, 0), (1, 0), (0, 1), (1, 1)]


@cache
def some_skies():
    """Return small skies; in some of them few guides are enough, in others no guides are."""
    return [EXAMPLE, Sky(4, [], (1, 0, 0, 1)), some_sky(1, 4, (1, 0, 1, 4), 6), some_sky(2, 5, (2, 0, 0, 2), 6),
            some_sky(3, 5, (1, 1, 0, 1), 5), some_sky(4, 5, (2, 0, 1, 3), 7), some_sky(5, 4, (1, 0, 0, 1), 10),
            Sky(5, [(0, 0, 5), (2, 1, 5), (3, 3, 5), (1, 4, 6), (4, 2, 6)], (2, 0, 0, 1))]


@cache
def links_of(sky, one, other):
    """Return a table with the stars that are linked with each star; `linked` is tested against a plain search."""
    table = [[] for _ in sky.stars]
    for first, second in linked(sky, one, other):
        table[first].append(second)
    return table


@cache
def tables(sky, slack):
    """Return tuples (one, other, sure stars, links) of far attitudes, in order; the first ones have the quarter 0.

    Both turned alike see, and are linked, alike.
    """
    return [(one, other, sure_stars(sky, one), links_of(sky, one, other))
            for one, other in product(attitudes(sky), repeat=2) if one[2] == 0 and plain_far(sky, one, other, slack)]


@cache
def lack_by(sky, guides, one, other):
    """Return the guide lack by a plain search through all lots."""
    table = links_of(sky, one, other)
    return max(plain_lack(table, lot) for lot in all_parts([star for star in sure_stars(sky, one) if star in guides]))


@cache
def least_lacks(sky, slack):
    """Return a dict from all lots, as tuples, to the least guide lack by them, by a plain search."""
    found = {}
    every = {}
    for _, _, sure, table in tables(sky, slack):
        every[(tuple(sure), tuple(map(tuple, table)))] = True
    for lot in all_parts(range(len(sky.stars))):
        found[tuple(lot)] = min(max(plain_lack(table, part) for part in all_parts([s for s in sure if s in lot]))
                                for sure, table in every)
    return found


class NeedTest(unittest.TestCase):

    def test_guide_need_against_all_matchings(self):
        chance = Random(5)
        for seed, sky in enumerate(some_skies()):
            for many in range(4):
                sighting = some_sighting(seed + many, sky, many)
                for attitude in attitudes(sky)[seed::17]:
                    guides = chance.choices(range(len(sky.stars)), k=3) if sky.stars else []
                    sure = [star for star in plain_sure(sky, attitude) if star in guides]
                    every = all_matchings(plain_table(sky, attitude, sighting))
                    most = max(len([1 for star, _ in told if star in sure]) for told in every)
                    self.assertEqual(gu.guide_need(sky, guides, attitude, sighting), len(sure) - most)

    def test_attitude_that_can_be_passes(self):
        for seed, sky in enumerate(some_skies()):
            sighting = some_sighting(seed, sky, 2)
            for attitude in attitudes(sky)[::5]:
                missing = need(sky, attitude, sighting)[0]
                for guides in ([], [0] if sky.stars else [], list(range(len(sky.stars)))):
                    told = gu.guide_need(sky, guides, attitude, sighting)
                    self.assertLessEqual(told, missing)
                self.assertEqual(told, missing)

    def test_guides_that_stand_twice_and_in_any_order(self):
        for guides in ([2, 0], [0, 2, 2], [2, 0, 0, 2]):
            for call, given in [(gu.guide_need, [(0, 0, 0), ()]), (gu.guide_lack, [(0, 0, 0), (1, 1, 1)]),
                                (gu.guide_lot, [(0, 0, 0), (1, 1, 1)]), (gu.guide_distance, [0]), (gu.weakest, [0]),
                                (gu.are_enough, [0, 0, 0]), (gu.needed_guides, [0, 0, 0]), (gu.thinned, [0, 0, 0])]:
                self.assertEqual(call(EXAMPLE, guides, *given), call(EXAMPLE, [0, 2], *given))
        self.assertEqual(gu.guide_lot(EXAMPLE, [2, 0, 2], (0, 0, 0), (1, 1, 1)), [0, 2])


class LackTest(unittest.TestCase):

    def test_against_all_lots(self):
        chance = Random(6)
        for sky in some_skies():
            for _ in range(60):
                one, other = chance.choices(attitudes(sky), k=2)
                guides = chance.choices(range(len(sky.stars)), k=chance.randrange(6)) if sky.stars else []
                table = plain_links(sky, one, other)
                parts = all_parts([star for star in plain_sure(sky, one) if star in guides])
                most = max(plain_lack(table, lot) for lot in parts)
                self.assertEqual(gu.guide_lack(sky, guides, one, other), most)
                least = set.intersection(*[set(lot) for lot in parts if plain_lack(table, lot) == most])
                self.assertEqual(gu.guide_lot(sky, guides, one, other), sorted(least))

    def test_one_more_guide(self):
        # Point [40]: no guide lack falls.
        for sky in some_skies():
            for one, other in zip(attitudes(sky)[::9], attitudes(sky)[::-7]):
                told = [gu.guide_lack(sky, list(range(many)), one, other) for many in range(len(sky.stars) + 1)]
                self.assertEqual(told, sorted(told))

    def check_misleading(self, sky, guides, one, true, missing, false):
        """Check that a misleading sighting has the form and the property that the document asks."""
        told = gu.misleading(sky, guides, one, true, missing, false)
        if gu.guide_lack(sky, guides, one, true) > missing + false:
            self.assertIsNone(told)
            return False
        self.assertIsInstance(told, tuple)
        self.assertIsNone(check_sighting(sky, told))
        self.assertIs(can_be(sky, true, told, missing, false), True)
        self.assertLessEqual(gu.guide_need(sky, guides, one, told), missing)
        return True

    def test_misleading_sightings(self):
        chance = Random(7)
        found = []
        for sky in [*some_skies(), some_sky(6, 9, (3, 1, 2, 3), 20), some_sky(7, 9, (4, 0, 0, 1), 20)]:
            for _ in range(60):
                guides = [star for star in range(len(sky.stars)) if chance.random() < 0.7]
                one, true = chance.choices(attitudes(sky), k=2)
                least = gu.guide_lack(sky, guides, one, true)
                for missing, false in [*BOUNDS, (least, 0), (0, least), (least // 2, least - least // 2), (20, 20)]:
                    found.append(self.check_misleading(sky, guides, one, true, missing, false))
                if least:
                    self.check_misleading(sky, guides, one, true, least - 1, 0)
                    self.check_misleading(sky, guides, one, true, 0, least - 1)
        self.assertEqual(set(found), {True, False})

    def test_misleading_against_all_sightings(self):
        sky = Sky(4, [(0, 0, 9), (1, 0, 9), (1, 1, 9)], (1, 0, 0, 9))
        sightings = [told for many in range(6) for told in combinations_with_replacement(plain_spots(sky), many)]
        for one, true in [((0, 0, 0), (0, 0, 1)), ((0, 0, 0), (2, 2, 0)), ((1, 1, 2), (0, 3, 3))]:
            for missing, false in [(0, 0), (1, 0), (0, 1), (1, 1)]:
                for guides in ([0, 1, 2], [1], []):
                    some = any(can_be(sky, true, told, missing, false)
                               and gu.guide_need(sky, guides, one, told) <= missing for told in sightings)
                    told = gu.misleading(sky, guides, one, true, missing, false)
                    self.assertIs(told is not None, some)


class EnoughTest(unittest.TestCase):

    def test_guide_distance_and_weakest(self):
        for sky, slack in product(some_skies()[:6], (0, 1, 9)):
            lacks = least_lacks(sky, slack)
            for lot in all_parts(range(len(sky.stars)))[::5]:
                self.assertEqual(gu.guide_distance(sky, lot, slack), lacks[tuple(lot)])
                one, other = gu.weakest(sky, lot, slack)
                right = [(first, second) for first, second, _, _ in tables(sky, slack)
                         if lack_by(sky, tuple(lot), first, second) == lacks[tuple(lot)]]
                self.assertEqual((one, other), min(right))

    def test_enough_needed_and_thinned(self):
        for sky, slack, (missing, false) in product(some_skies(), (0, 2), BOUNDS):
            enough = {lot for lot, least in least_lacks(sky, slack).items() if least > missing + false}
            for lot in all_parts(range(len(sky.stars)))[::3]:
                given = (sky, lot, slack, missing, false)
                self.assertIs(gu.are_enough(*given), tuple(lot) in enough)
                if tuple(lot) not in enough:
                    self.assertIsNone(gu.needed_guides(*given))
                    self.assertIsNone(gu.thinned(*given))
                    continue
                needed = [star for star in lot if tuple(other for other in lot if other != star) not in enough]
                self.assertEqual(gu.needed_guides(*given), needed)
                left = list(lot)
                for star in lot:
                    if tuple(other for other in left if other != star) in enough:
                        left.remove(star)
                self.assertEqual(gu.thinned(*given), left)
                # Point [40]: each one that is left is needed.
                self.assertEqual(gu.needed_guides(sky, left, slack, missing, false), left)

    def test_in_every_lot_and_fewest(self):
        found = set()
        for sky, slack, (missing, false) in product(some_skies(), (0, 2), BOUNDS):
            enough = [list(lot) for lot, least in least_lacks(sky, slack).items() if least > missing + false]
            given = (sky, slack, missing, false)
            found.add(bool(enough))
            if not enough:
                self.assertIsNone(gu.in_every_lot(*given))
                self.assertIsNone(gu.fewest_guides(*given))
                continue
            self.assertEqual(gu.in_every_lot(*given), sorted(set.intersection(*map(set, enough))))
            self.assertEqual(gu.fewest_guides(*given), min(enough, key=lambda lot: (len(lot), lot)))
        self.assertEqual(found, {True, False})

    def test_enough_guides_let_no_far_attitude_pass(self):
        # Point [39], by sightings.
        sky, lot = EXAMPLE, gu.fewest_guides(EXAMPLE, 0, 0, 0)
        for seed in range(30):
            sighting = some_sighting(seed, sky, seed % 4)
            can = possible(sky, sighting, 0, 0)
            passing = [attitude for attitude in attitudes(sky) if gu.guide_need(sky, lot, attitude, sighting) == 0]
            self.assertTrue(set(can) <= set(passing))
            if can:
                self.assertEqual(passing, can)

    def test_no_guides_and_a_sky_without_stars(self):
        for sky in some_skies():
            self.assertEqual(gu.guide_distance(sky, [], 0), 0)
            self.assertEqual(gu.weakest(sky, [], 0), ((0, 0, 0), (0, 0, 1)))
            self.assertIs(gu.are_enough(sky, [], 9, 0, 0), False)
            self.assertIsNone(gu.needed_guides(sky, [], 0, 0, 0))
            self.assertIsNone(gu.thinned(sky, [], 0, 0, 0))
        empty = Sky(9, [], (4, 0, 0, 1))
        self.assertIsNone(gu.in_every_lot(empty, 0, 0, 0))
        self.assertIsNone(gu.fewest_guides(empty, 0, 0, 0))

    def test_all_stars_as_guides(self):
        # All stars together are enough at the distance, and no number below can be told by guides alone.
        for sky, slack in product(some_skies(), (0, 9)):
            told = gu.guide_distance(sky, list(range(len(sky.stars))), slack)
            self.assertLessEqual(told, least_distance(sky, slack)[0])

    def test_number_of_stars_just_too_large(self):
        for side, stars in ((5, 10), (9, 10), (5, 11), (9, 20)):
            for camera in [((side - 1) // 2, 0, 0, 1), (1, 0, 0, 9)]:
                sky = some_sky(8, side, camera, stars)
                error = what_is_raised(gu.fewest_guides, sky, 0, 0, 0)
                self.assertEqual(error, None if stars == 10 else (TooLarge, {}))
        told = gu.fewest_guides(some_sky(8, 9, (4, 0, 0, 1), 10), 0, 1, 1)
        self.assertIs(gu.are_enough(some_sky(8, 9, (4, 0, 0, 1), 10), told, 0, 1, 1), True)

    def test_full_skies_of_the_greatest_side(self):
        for camera in [(4, 0, 0, 1), (4, 0, 2, 3), (3, 1, 1, 2)]:
            sky, guides = some_sky(9, 9, camera, 20), list(range(20))
            number = gu.guide_distance(sky, guides, 0)
            one, other = gu.weakest(sky, guides, 0)
            self.assertEqual(gu.guide_lack(sky, guides, one, other), number)
            self.assertIs(gu.are_enough(sky, guides, 0, number, 0), False)
            if number:
                self.assertIs(gu.are_enough(sky, guides, 0, number - 1, 0), True)
                left = gu.thinned(sky, guides, 0, 0, number - 1)
                self.assertEqual(gu.needed_guides(sky, left, 0, 0, number - 1), left)
                self.assertTrue(set(gu.in_every_lot(sky, 0, 0, number - 1)) <= set(left))

    def test_guides_that_are_just_enough(self):
        self.assertEqual([gu.are_enough(EXAMPLE, [0, 1, 2], 0, *bounds) for bounds in [(1, 0), (0, 1), (1, 1), (2, 0)]],
                         [True, True, False, False])
        self.assertEqual([gu.are_enough(EXAMPLE, lot, 0, 0, 0) for lot in ([0, 1], [1, 2], [1])],
                         [True, True, False])

    def test_answers_are_new(self):
        for call, given in [(gu.needed_guides, [[0, 1], 0, 0, 0]), (gu.thinned, [[0, 1, 2], 0, 0, 0]),
                            (gu.in_every_lot, [0, 0, 0]), (gu.fewest_guides, [0, 0, 0]),
                            (gu.guide_lot, [[0, 1], (0, 0, 0), (1, 1, 1)])]:
            was = call(EXAMPLE, *given)
            call(EXAMPLE, *given).append(9)
            self.assertEqual(call(EXAMPLE, *given), was)
        whole = [0, 1]
        self.assertIsNot(gu.thinned(EXAMPLE, whole, 0, 0, 0), whole)


class WholeFileTest(CallsTest, unittest.TestCase):

    SKY = EXAMPLE
    GUIDES = [([0, told, 99], (UnknownStar, {"number": told})) for told in (3, -1, 20)]
    ATTITUDES = [(told, (InvalidAttitude, {"attitude": told})) for told in no_attitudes(5)]
    SIGHTINGS = [(told, (InvalidSighting, {})) for told in no_sightings(EXAMPLE)]
    TWO = [(0, GUIDES), (1, ATTITUDES), (2, ATTITUDES[::-1])]
    CALLS = [(gu.guide_need, [[1, 0, 1], (4, 4, 3), ()], [(0, GUIDES), (1, ATTITUDES), (2, SIGHTINGS)]),
             (gu.guide_lack, [[1, 0, 1], (4, 4, 3), (0, 0, 0)], TWO),
             (gu.guide_lot, [[2, 0], (4, 4, 3), (0, 0, 0)], TWO),
             (gu.misleading, [[2, 0], (4, 4, 3), (0, 0, 0), 0, 0], TWO),
             (gu.misleading, [[2, 0], (4, 4, 3), (0, 0, 0), 20, 20], TWO),
             (gu.guide_distance, [[2, 0, 0], 1], [(0, GUIDES)]), (gu.weakest, [[2, 0, 0], 1], [(0, GUIDES)]),
             (gu.are_enough, [[2, 0, 0], 1, 0, 0], [(0, GUIDES)]),
             (gu.needed_guides, [[2, 1, 0], 1, 0, 0], [(0, GUIDES)]),
             (gu.thinned, [[2, 1, 0], 1, 0, 0], [(0, GUIDES)])]

    def test_other_calls_change_nothing(self):
        for call in (gu.in_every_lot, gu.fewest_guides):
            self.assertFalse(changed_by(call, EXAMPLE, 0, 0, 0))
        self.assertFalse(changed_by(gu.fewest_guides, some_sky(1, 5, (1, 0, 0, 1), 11), 0, 0, 0))

    def test_examples(self):
        self.assertEqual([gu.guide_distance(EXAMPLE, lot, 0) for lot in [[0], [0, 1], [0, 1, 2]]], [0, 1, 2])
        self.assertEqual([gu.fewest_guides(EXAMPLE, 0, 0, 0), gu.thinned(EXAMPLE, [0, 1, 2], 0, 0, 0),
                          gu.are_enough(EXAMPLE, [0, 1, 2], 0, 1, 1)], [[0, 1], [1, 2], False])
        self.assertEqual(len(sure_stars(EXAMPLE, (0, 0, 0))), 3)


if __name__ == "__main__":
    unittest.main()
