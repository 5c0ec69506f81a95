"""Tests of starward.alike: points [71] to [74] and [76], and the interface."""

import unittest
from functools import cache
from itertools import combinations_with_replacement, product
from random import Random

from starward import alike as al
from starward.attitudes import attitudes, joined, motion_between, motions, moved, reversed_motion
from starward.confuse import are_confusable
from starward.errors import InvalidAttitude
from starward.sightings import can_be, need
from starward.sky import Sky, check_sighting
from tests.plain import (changed_by, no_attitudes, no_sightings, plain_fits, plain_offset, plain_seen, plain_spots,
                         some_sky, turned_often, what_is_raised, wrong_calls)

EXAMPLE = Sky(5, [(0, 0, 9), (1, 0, 4)], (1, 0, 0, 1))


@cache
def some_skies():
    """Return small skies, some of them with still motions, a blur or a glare."""
    return [EXAMPLE, Sky(4, [], (1, 0, 0, 1)), Sky(4, [(0, 0, 5), (2, 2, 5)], (1, 0, 0, 3)),
            Sky(4, [(0, 0, 5), (2, 0, 5), (0, 2, 5), (2, 2, 5), (1, 1, 2)], (1, 0, 1, 4)),
            Sky(5, [(1, 0, 7), (0, 1, 7), (4, 0, 7), (0, 4, 7), (2, 3, 3)], (1, 1, 1, 4)),
            Sky(5, [(1, 0, 7), (0, 1, 7), (4, 0, 7), (0, 4, 7), (2, 3, 3)], (1, 1, 1, 5)),
            some_sky(1, 5, (2, 0, 0, 4), 6), some_sky(2, 4, (1, 0, 2, 2), 9), some_sky(3, 5, (1, 1, 2, 3), 5),
            some_sky(4, 5, (0, 0, 2, 6), 12), Sky(6, [(0, 0, 8), (3, 0, 8), (1, 2, 1)], (1, 1, 0, 2))]


def plain_sees(sky, attitude):
    """Return what an attitude sees."""
    return sorted([(*plain_offset(sky, attitude, sky.stars[number]), sky.stars[number][2])
                   for number in plain_seen(sky, attitude)])


def plain_moved(sky, star, motion):
    """Return the star to which the motion takes a star."""
    x, y = turned_often(motion[2], star[:2])
    return ((x + motion[0]) % sky.side, (y + motion[1]) % sky.side, star[2])


def some_pairs(seed, sky, many):
    """Return so many tuples of two attitudes, the same ones each time."""
    chance = Random(seed)
    return [tuple(chance.choices(attitudes(sky), k=2)) for _ in range(many)]


class AlikeTest(unittest.TestCase):

    def test_sees(self):
        for sky in some_skies():
            for attitude in attitudes(sky):
                self.assertEqual(al.sees(sky, attitude), plain_sees(sky, attitude))

    def test_are_alike_and_lots(self):
        for sky in some_skies():
            lots = {}
            for attitude in attitudes(sky):
                lots.setdefault(str(plain_sees(sky, attitude)), []).append(attitude)
            told = al.alike_lots(sky)
            self.assertEqual(told, sorted(lots.values()))
            for one, other in [*some_pairs(1, sky, 60), *[(lot[0], lot[-1]) for lot in told]]:
                self.assertIs(al.are_alike(sky, one, other), any(one in lot and other in lot for lot in told))

    def test_stars_at_the_rim_and_just_too_dim(self):
        sky = Sky(7, [(0, 0, 4), (0, 0, 3), (3, 0, 9), (4, 0, 9)], (2, 1, 1, 5))
        self.assertEqual(al.sees(sky, (0, 0, 0)), [(-3, 0, 9), (0, 0, 4), (3, 0, 9)])

    def test_alike_attitudes_let_just_the_same_sightings_be(self):
        for sky, most_spots in [(Sky(4, [(0, 0, 9), (1, 0, 9), (2, 2, 9)], (1, 0, 0, 9)), 3),
                                (Sky(4, [(0, 0, 8), (1, 0, 9), (2, 2, 7)], (0, 0, 1, 8)), 4),
                                (Sky(5, [(0, 0, 9), (1, 0, 9)], (1, 1, 0, 9)), 3)]:
            chosen = attitudes(sky)[::3]
            told = {attitude: [] for attitude in chosen}
            for many in range(most_spots + 1):
                for sighting in combinations_with_replacement(plain_spots(sky), many):
                    for attitude in chosen:
                        told[attitude].append(need(sky, attitude, sighting))
            for one, other in product(chosen, repeat=2):
                self.assertIs(al.are_alike(sky, one, other), told[one] == told[other])


    def test_sightings_tell_how_many_stars_fit_some_spot_of_a_lot(self):
        # Point [72]: of spots of a lot, as many as stars that fit one of them, and as many as may be false.
        chance = Random(6)
        for sky, attitude in [(Sky(4, [(0, 0, 9), (1, 0, 9), (3, 3, 9)], (1, 0, 0, 9)), (0, 0, 0)),
                              (Sky(5, [(0, 0, 9), (2, 0, 9)], (1, 1, 0, 9)), (0, 0, 1)),
                              (Sky(4, [(0, 0, 9), (0, 0, 7), (0, 0, 8)], (0, 0, 1, 8)), (0, 0, 2))]:
            spots = plain_spots(sky)
            seen = len(plain_seen(sky, attitude))
            told = [(sighting, need(sky, attitude, sighting)) for many in range(seen + 2)
                    for sighting in combinations_with_replacement(spots, many)]
            for lot in [chance.sample(spots, chance.randrange(1, len(spots))) for _ in range(25)]:
                fitting = [star for star in sky.stars if any(plain_fits(sky, attitude, star, spot) for spot in lot)]
                for missing, false in [(0, 0), (0, 1), (1, 0), (1, 1)]:
                    most = max(len([spot for spot in sighting if spot in lot]) for sighting, needs in told
                               if needs[0] <= missing and needs[1] <= false)
                    self.assertEqual(most, len(fitting) + false)


class TellingTest(unittest.TestCase):

    def check(self, sky, one, other):
        """Check that there is a telling sighting exactly if the two are not alike."""
        told = al.telling_sighting(sky, one, other)
        if plain_sees(sky, one) == plain_sees(sky, other):
            self.assertIsNone(told)
            return
        which, sighting = told
        self.assertIn(which, (0, 1))
        self.assertIsInstance(sighting, tuple)
        self.assertIsNone(check_sighting(sky, sighting))
        two = (one, other)
        self.assertIs(can_be(sky, two[which], sighting, 0, 0), True)
        self.assertIs(can_be(sky, two[1 - which], sighting, 0, 0), False)
        self.assertIs(al.check_telling(sky, one, other, told), True)

    def test_telling_sightings(self):
        for sky in some_skies():
            for one, other in some_pairs(2, sky, 150):
                self.check(sky, one, other)

    def test_two_attitudes_that_are_one(self):
        for sky in some_skies():
            for attitude in attitudes(sky)[::17]:
                self.assertIsNone(al.telling_sighting(sky, attitude, attitude))
                self.assertIs(al.are_alike(sky, attitude, attitude), True)

    def test_all_that_two_attitudes_can_see(self):
        # Stars in two windows that do not meet: all small views of the one beside all of the other.
        for camera, places in [((1, 1, 0, 8), [(dx, dy) for dx in (-2, 0, 1) for dy in (-1, 2)]),
                               ((1, 0, 2, 7), [(0, 0), (1, 0)]), ((0, 0, 2, 7), [(0, 0)]),
                               ((1, 1, 1, 8), [(0, 0), (2, 0), (1, -1)])]:
            bright = range(max(1, camera[3] - camera[2]), 10)
            looks = [(dx, dy, brightness) for dx, dy in places for brightness in bright]
            views = [list(view) for many in (1, 2) for view in combinations_with_replacement(looks, many)
                     if len(set(view)) == many]
            for first, second in Random(3).choices(list(product(views, repeat=2)), k=250):
                stars = {((2 + x) % 9, (2 + y) % 9, brightness): True for x, y, brightness in first}
                stars.update({((6 + x) % 9, (6 + y) % 9, brightness): True for x, y, brightness in second})
                sky = Sky(9, list(stars), camera)
                self.check(sky, (2, 2, 0), (6, 6, 0))
                self.check(sky, (2, 2, 1), (6, 6, 1))

    def test_full_skies(self):
        for seed, (side, camera) in enumerate([(9, (4, 0, 2, 1)), (9, (3, 1, 2, 3)), (9, (2, 2, 2, 5)),
                                               (5, (1, 1, 2, 2)), (6, (1, 1, 0, 4))]):
            sky = some_sky(seed, side, camera, 20)
            for one, other in some_pairs(4, sky, 40):
                self.check(sky, one, other)

    def test_check_against_the_words(self):
        for sky in some_skies()[:5]:
            spots = plain_spots(sky)
            sightings = [(), *[(spot,) for spot in spots[::3]], *combinations_with_replacement(spots[::9], 2)]
            for one, other in some_pairs(5, sky, 8):
                sees = [tuple(plain_sees(sky, attitude)) for attitude in (one, other)]
                for which, sighting in product((-1, 0, 1, 2), [*sightings, *sees]):
                    right = which in (0, 1) and what_is_raised(check_sighting, sky, sighting) is None
                    if right:
                        two = [(one, other), (other, one)][which]
                        right = can_be(sky, two[0], sighting, 0, 0) and not can_be(sky, two[1], sighting, 0, 0)
                    self.assertIs(al.check_telling(sky, one, other, (which, sighting)), right)

    def test_what_is_no_sighting(self):
        for which, sighting in product((-2, -1, 0, 1, 2), no_sightings(EXAMPLE)):
            self.assertIs(al.check_telling(EXAMPLE, (0, 0, 0), (3, 3, 0), (which, sighting)), False)


class StillTest(unittest.TestCase):

    def test_still_motions_against_all_attitudes(self):
        for sky in some_skies():
            every = attitudes(sky)
            expected = [motion for motion in motions(sky)
                        if all(al.are_alike(sky, attitude, moved(sky, attitude, motion)) for attitude in every)]
            self.assertEqual(al.still_motions(sky), expected)

    def test_still_motions_take_bright_stars_to_bright_stars(self):
        found = set()
        for sky in some_skies():
            bright = {star for star in sky.stars if star[2] >= sky.limit - sky.glare}
            expected = [motion for motion in motions(sky)
                        if {plain_moved(sky, star, motion) for star in bright} == bright]
            self.assertEqual(al.still_motions(sky), expected)
            found.add(len(expected))
        self.assertTrue({1, 4, 64} <= found)

    def test_dim_stars_do_not_count(self):
        stars = [(1, 0, 7), (0, 1, 7), (4, 0, 7), (0, 4, 7), (2, 3, 3)]
        # With the glare 1 the star of the brightness 3 can be seen at the limit 4, and not at the limit 5.
        self.assertEqual(len(al.still_motions(Sky(5, stars, (1, 1, 1, 5)))), 4)
        self.assertEqual(len(al.still_motions(Sky(5, stars, (1, 1, 1, 4)))), 1)

    def test_still_motions_are_joined_and_taken_back(self):
        for sky in some_skies():
            still = al.still_motions(sky)
            self.assertIn((0, 0, 0), still)
            for one, other in product(still[:16], repeat=2):
                self.assertIn(joined(sky, one, other), still)
                self.assertIn(reversed_motion(sky, one), still)
                self.assertTrue(all(are_confusable(sky, attitude, moved(sky, attitude, one), 0, 0)
                                    for attitude in attitudes(sky)[::31]))

    def hidden(self, sky):
        """Return the motions by which no attitude and its moved one are told apart at (0, 0)."""
        return [motion for motion in motions(sky)
                if all(are_confusable(sky, attitude, moved(sky, attitude, motion), 0, 0)
                       for attitude in attitudes(sky)[::4])]

    def test_hidden_motions_are_still_without_blur_and_glare(self):
        for sky in (EXAMPLE, some_skies()[2], Sky(4, [(0, 0, 5), (2, 0, 5), (0, 2, 5), (2, 2, 5)], (1, 0, 0, 4)),
                    Sky(5, [(1, 0, 7), (0, 1, 7), (4, 0, 7), (0, 4, 7), (2, 3, 3)], (2, 0, 0, 4))):
            self.assertEqual(self.hidden(sky), al.still_motions(sky))
        sky = Sky(5, [(0, 0, 5), (0, 1, 6)], (1, 0, 2, 1))
        self.assertEqual(al.still_motions(sky), [(0, 0, 0)])
        self.assertTrue({(0, 0, 0), (0, 1, 2)} <= set(self.hidden(sky)))

    def test_sky_without_stars(self):
        sky = Sky(4, [], (1, 0, 0, 1))
        self.assertEqual((al.still_motions(sky), al.still_lots(sky), al.alike_lots(sky)),
                         (motions(sky), [attitudes(sky)], [attitudes(sky)]))
        self.assertEqual(al.sees(sky, (1, 2, 3)), [])
        dim = Sky(4, [(0, 0, 1)], (1, 0, 1, 3))
        self.assertEqual(al.still_motions(dim), motions(dim))

    def test_still_lots(self):
        for sky in some_skies():
            still, lots = al.still_motions(sky), al.still_lots(sky)
            self.assertEqual(sorted([attitude for lot in lots for attitude in lot]), attitudes(sky))
            self.assertEqual(lots, sorted([sorted(lot) for lot in lots]))
            self.assertEqual({len(lot) for lot in lots}, {len(still)})
            for lot in lots[::7]:
                for one, other in product(lot[:8], lot[:8]):
                    self.assertIn(motion_between(sky, one, other), still)

    def test_full_sky_of_the_greatest_side(self):
        sky = some_sky(1, 9, (3, 1, 1, 2), 20)
        self.assertEqual(al.still_motions(sky), [(0, 0, 0)])
        self.assertEqual(al.still_lots(sky), [[attitude] for attitude in attitudes(sky)])
        self.assertEqual(sum(len(lot) for lot in al.alike_lots(sky)), 324)


class WholeFileTest(unittest.TestCase):

    TOLD = (0, ((0, 0, 9), (1, 0, 4)))
    CALLS = [(al.are_alike, []), (al.telling_sighting, []), (al.check_telling, [TOLD]),
             (al.check_telling, [(7, ((9, 9, 9),))])]

    def test_errors_in_order(self):
        bad = [(told, (InvalidAttitude, {"attitude": told})) for told in no_attitudes(5)]
        for call, more in self.CALLS:
            for given in [[(4, 4, 3), (0, 0, 0), *more], [(4, 4, 3), (4, 4, 3), *more]]:
                for told, expected in wrong_calls(given, [(0, bad), (1, bad[::-1])]):
                    self.assertEqual(what_is_raised(call, EXAMPLE, *told), expected, call)
                self.assertIsNone(what_is_raised(call, EXAMPLE, *given))
        for told in no_attitudes(5):
            self.assertEqual(what_is_raised(al.sees, EXAMPLE, told), (InvalidAttitude, {"attitude": told}))

    def test_nothing_is_changed(self):
        for call, more in self.CALLS:
            self.assertFalse(changed_by(call, EXAMPLE, (0, 0, 0), (3, 3, 0), *more), call)
        for call in (al.alike_lots, al.still_motions, al.still_lots):
            self.assertFalse(changed_by(call, EXAMPLE), call)
        self.assertFalse(changed_by(al.sees, EXAMPLE, (0, 0, 0)))

    def test_answers_are_new(self):
        for call, given in [(al.sees, [(0, 0, 0)]), (al.alike_lots, []), (al.still_motions, []), (al.still_lots, [])]:
            was = call(EXAMPLE, *given)
            told = call(EXAMPLE, *given)
            told.append(0)
            if isinstance(told[0], list):
                told[0].append(0)
            self.assertEqual(call(EXAMPLE, *given), was)

    def test_examples(self):
        self.assertEqual((al.sees(EXAMPLE, (0, 0, 1)), [len(lot) for lot in al.alike_lots(EXAMPLE) if len(lot) > 2],
                          al.still_motions(EXAMPLE)), ([(0, -1, 4), (0, 0, 9)], [52], [(0, 0, 0)]))
        self.assertEqual([al.check_telling(EXAMPLE, (0, 0, 0), (3, 3, 0), told)
                          for told in [(0, ((0, 0, 9), (1, 0, 4))), (1, ()), (0, ())]], [True, True, False])


if __name__ == "__main__":
    unittest.main()
