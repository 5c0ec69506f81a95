"""Tests of starward.sky: points [5], [8] and [10], and the interface."""

import unittest
from itertools import product

from starward.errors import InvalidMotion, InvalidSighting, InvalidSky, StarTaken, UnknownStar
from starward.sky import Sky, check_sighting, is_spot
from tests.plain import (all_cameras, changed_by, plain_spots, raised, some_sky, told_of_sky, turned_often,
                         what_is_raised)

STARS = [(4, 4, 2), (1, 0, 5), (2, 2, 3), (1, 0, 4)]
CAMERA = (1, 1, 1, 2)


class SkyTest(unittest.TestCase):

    def refused(self, side, stars, camera):
        """Return True if InvalidSky is raised, False if there is such a sky."""
        error = raised(Sky, side, stars, camera)
        self.assertIn(type(error), (InvalidSky, type(None)))
        return error is not None

    def test_properties(self):
        sky = Sky(6, STARS, (2, 0, 1, 3))
        self.assertEqual(told_of_sky(sky),
                         (6, ((1, 0, 4), (1, 0, 5), (2, 2, 3), (4, 4, 2)), (2, 0, 1, 3), 2, 0, 1, 3))

    def test_stars_are_ascending_by_all_parts(self):
        stars = [(1, 1, 2), (1, 1, 1), (1, 0, 9), (0, 2, 9), (0, 3, 1)]
        ascending = ((0, 2, 9), (0, 3, 1), (1, 0, 9), (1, 1, 1), (1, 1, 2))
        self.assertEqual(Sky(4, stars, (1, 0, 0, 1)).stars, ascending)

    def test_sides(self):
        for side in range(-1, 13):
            self.assertEqual(self.refused(side, [], (0, 0, 0, 1)), not 4 <= side <= 9, side)

    def test_cameras_of_all_sides(self):
        for side in (4, 5, 6, 7, 8, 9):
            allowed = set(all_cameras(side))
            for camera in product(range(-1, 6), range(-1, 4), range(-1, 4), range(-1, 12)):
                self.assertEqual(self.refused(side, [], camera), camera not in allowed, (side, camera))

    def test_windows_as_wide_as_the_sky(self):
        for side, camera in [(9, (4, 0, 0, 1)), (9, (3, 1, 2, 9)), (9, (2, 2, 0, 1)), (5, (1, 1, 1, 1)),
                             (4, (1, 0, 2, 9)), (7, (2, 1, 0, 1))]:
            self.assertEqual(Sky(side, [], camera).camera, camera)
        for side, camera in [(8, (4, 0, 0, 1)), (9, (4, 1, 0, 1)), (8, (2, 2, 0, 1)), (4, (1, 1, 0, 1))]:
            self.assertTrue(self.refused(side, [], camera), (side, camera))

    def test_camera_with_another_number_of_parts(self):
        for camera in [(), (1,), (1, 0, 0), (1, 0, 0, 1, 1), (1, 0, 0, 1, 0, 0)]:
            self.assertTrue(self.refused(5, [], camera), camera)

    def test_star_parts(self):
        for side in (4, 9):
            for star in product((-1, 0, 1, side - 1, side, side + 3), (-1, 0, side - 1, side), (-1, 0, 1, 9, 10)):
                fine = 0 <= star[0] < side and 0 <= star[1] < side and 1 <= star[2] <= 9
                self.assertEqual(self.refused(side, [star], (0, 0, 0, 1)), not fine, (side, star))

    def test_star_with_another_number_of_parts(self):
        for star in [(), (1,), (1, 1), (1, 1, 1, 1), (1, 1, 1, 1, 1)]:
            self.assertTrue(self.refused(5, [star], CAMERA), star)
            self.assertTrue(self.refused(5, [(0, 0, 1), star], CAMERA), star)

    def test_stars_at_one_place_have_different_brightnesses(self):
        self.assertEqual(len(Sky(4, [(1, 2, b) for b in range(1, 10)], (0, 0, 0, 1)).stars), 9)
        self.assertTrue(self.refused(4, [(1, 2, 3), (0, 0, 1), (1, 2, 3)], (0, 0, 0, 1)))

    def test_number_of_stars(self):
        stars = [(x, y, 5) for x in range(5) for y in range(5)]
        self.assertEqual(Sky(5, [], CAMERA).stars, ())
        self.assertEqual(len(Sky(5, stars[:20], CAMERA).stars), 20)
        self.assertTrue(self.refused(5, stars[:21], CAMERA))

    def test_list_that_is_passed(self):
        stars = list(STARS)
        sky = Sky(5, stars, CAMERA)
        self.assertEqual(stars, STARS)
        stars.append((3, 3, 3))
        stars[0] = (0, 0, 9)
        self.assertEqual(sky.stars, tuple(sorted(STARS)))
        self.assertEqual(sky.number_of((3, 3, 3)), None)


class StarsOfSkyTest(unittest.TestCase):

    def setUp(self):
        self.sky = Sky(5, STARS, CAMERA)

    def tearDown(self):
        self.assertEqual(told_of_sky(self.sky), (5, tuple(sorted(STARS)), CAMERA, 1, 1, 1, 2))

    def test_star_at(self):
        self.assertEqual([self.sky.star_at(number) for number in range(4)], sorted(STARS))
        for number in (-1, -4, 4, 5, 100):
            self.assertEqual(what_is_raised(self.sky.star_at, number), (UnknownStar, {"number": number}))
        self.assertEqual(what_is_raised(Sky(5, [], CAMERA).star_at, 0), (UnknownStar, {"number": 0}))

    def test_number_of(self):
        self.assertEqual([self.sky.number_of(star) for star in sorted(STARS)], [0, 1, 2, 3])
        for star in [(1, 0, 6), (0, 1, 5), (9, 9, 9), (), (1, 0), (1, 0, 4, 0)]:
            self.assertIsNone(self.sky.number_of(star), star)

    def test_with_star(self):
        more = self.sky.with_star((1, 0, 1))
        self.assertEqual(told_of_sky(more), told_of_sky(Sky(5, [*STARS, (1, 0, 1)], CAMERA)))
        for star in STARS:
            self.assertEqual(what_is_raised(self.sky.with_star, star), (StarTaken, {"star": star}))
        for star in [(5, 0, 1), (0, -1, 1), (0, 0, 0), (0, 0, 10), (0, 0), (), (1, 0, 4, 0)]:
            self.assertIs(type(raised(self.sky.with_star, star)), InvalidSky, star)

    def test_with_star_if_there_are_twenty(self):
        full = some_sky(1, 5, CAMERA, 20)
        other = [(0, 0, b) for b in range(1, 10) if (0, 0, b) not in full.stars][0]
        self.assertIs(type(raised(full.with_star, other)), InvalidSky)
        self.assertIs(type(raised(full.with_star, full.stars[7])), StarTaken)
        self.assertEqual(len(full.without_star(3).with_star(other).stars), 20)

    def test_without_star(self):
        for number in range(4):
            left = sorted(STARS)
            del left[number]
            self.assertEqual(told_of_sky(self.sky.without_star(number)), told_of_sky(Sky(5, left, CAMERA)))
        for number in (-1, 4, 9):
            self.assertEqual(what_is_raised(self.sky.without_star, number), (UnknownStar, {"number": number}))

    def test_only(self):
        ascending = sorted(STARS)
        for numbers in [[], [2], [3, 0], [0, 1, 2, 3], [1, 1, 3, 1], [3, 2, 3, 2]]:
            chosen = [ascending[number] for number in set(numbers)]
            self.assertEqual(told_of_sky(self.sky.only(numbers)), told_of_sky(Sky(5, chosen, CAMERA)))
        self.assertEqual(what_is_raised(self.sky.only, [0, 7, -1, 4]), (UnknownStar, {"number": 7}))
        self.assertEqual(what_is_raised(self.sky.only, [0, -1, 7]), (UnknownStar, {"number": -1}))
        self.assertEqual(what_is_raised(self.sky.only, [4]), (UnknownStar, {"number": 4}))

    def test_only_keeps_the_list(self):
        numbers = [3, 1, 1]
        sky = self.sky.only(numbers)
        self.assertEqual(numbers, [3, 1, 1])
        numbers.append(0)
        self.assertEqual(len(sky.stars), 2)

    def test_with_camera(self):
        for camera in all_cameras(5):
            self.assertEqual(told_of_sky(self.sky.with_camera(camera)), told_of_sky(Sky(5, STARS, camera)))
        for camera in [(2, 1, 0, 1), (0, 1, 0, 1), (1, 0, 0, 0), (1, 0, 0, 10), (1, 0, 0), (1, 0, 0, 1, 1), ()]:
            self.assertIs(type(raised(self.sky.with_camera, camera)), InvalidSky, camera)

    def test_same_as(self):
        self.assertIs(self.sky.same_as(Sky(5, STARS[::-1], (1, 1, 1, 2))), True)
        self.assertIs(self.sky.same_as(self.sky), True)
        for other in [Sky(6, STARS, CAMERA), Sky(5, STARS[1:], CAMERA), Sky(5, STARS, (1, 1, 1, 3)),
                      Sky(5, [*STARS[1:], (4, 4, 3)], CAMERA), Sky(5, STARS, (1, 0, 1, 2))]:
            self.assertIs(self.sky.same_as(other), False)
            self.assertIs(other.same_as(self.sky), False)


class MovedSkyTest(unittest.TestCase):

    def test_moved(self):
        for side in (4, 9):
            sky = some_sky(side, side, (1, 0, 0, 3), 7)
            for motion in product(range(side), range(side), range(4)):
                stars = []
                for x, y, brightness in sky.stars:
                    turned = turned_often(motion[2], (x, y))
                    stars.append(((turned[0] + motion[0]) % side, (turned[1] + motion[1]) % side, brightness))
                self.assertEqual(told_of_sky(sky.moved(motion)), told_of_sky(Sky(side, stars, sky.camera)))

    def test_moved_to_known_places(self):
        sky = Sky(5, [(1, 0, 9), (3, 1, 7)], (1, 0, 0, 1))
        self.assertEqual(sky.moved((0, 0, 0)).stars, ((1, 0, 9), (3, 1, 7)))
        self.assertEqual(sky.moved((0, 0, 1)).stars, ((0, 1, 9), (4, 3, 7)))
        self.assertEqual(sky.moved((4, 2, 3)).stars, ((0, 4, 7), (4, 1, 9)))

    def test_moved_by_no_motion(self):
        sky = some_sky(2, 5, CAMERA, 4)
        for motion in [(5, 0, 0), (0, 5, 0), (0, 0, 4), (-1, 0, 0), (0, -1, 0), (0, 0, -1), (), (0, 0), (0, 0, 0, 0)]:
            self.assertEqual(what_is_raised(sky.moved, motion), (InvalidMotion, {"motion": motion}))


class SpotTest(unittest.TestCase):

    def test_spots_of_cameras(self):
        for side, camera in [(4, (0, 0, 0, 1)), (5, (1, 1, 1, 2)), (9, (4, 0, 2, 9)), (9, (2, 2, 2, 5)),
                             (9, (3, 0, 0, 9))]:
            sky = Sky(side, [], camera)
            spots = set(plain_spots(sky))
            for spot in product(range(-6, 7), range(-6, 7), range(-1, 13)):
                self.assertIs(is_spot(sky, spot), spot in spots, (camera, spot))

    def test_spot_with_another_number_of_parts(self):
        sky = Sky(5, [], CAMERA)
        for spot in [(), (0,), (0, 0), (0, 0, 5, 0), (0, 0, 5, 0, 0)]:
            self.assertIs(is_spot(sky, spot), False, spot)

    def test_spot_as_bright_as_the_glare_lets_it_be(self):
        sky = Sky(5, [], (1, 1, 1, 2))
        told = [is_spot(sky, (0, 0, brightness)) for brightness in (1, 2, 10, 11)]
        self.assertEqual(told, [False, True, True, False])


class SightingTest(unittest.TestCase):

    def setUp(self):
        self.sky = Sky(5, STARS, CAMERA)

    def test_sightings(self):
        for sighting in [(), ((0, 0, 5),), ((0, 0, 5), (0, 0, 5)), ((-1, 1, 2), (0, -1, 10), (0, 0, 2), (0, 0, 3)),
                         ((1, 1, 2),) * 60, tuple(plain_spots(self.sky)[:60])]:
            self.assertIsNone(check_sighting(self.sky, sighting))

    def test_no_sightings(self):
        for sighting in [((0, 0, 1),), ((0, 0, 11),), ((2, 0, 5),), ((0, -2, 5),), ((-2, 0, 5),), ((0, 2, 5),),
                         ((0, 0),), ((),), ((0, 0, 5, 5),), ((0, 0, 5), (0, 0, 4)), ((0, 0, 5), (-1, 0, 5)),
                         ((0, 0, 5), (0, -1, 5)), ((0, 0, 4), (0, 0, 5), (0, 0, 4)), ((0, 0, 5), (0, 0, 5), (0, 0)),
                         ((1, 1, 2),) * 61]:
            self.assertIs(type(raised(check_sighting, self.sky, sighting)), InvalidSighting, sighting)

    def test_sky_is_not_changed(self):
        for call, given in [(Sky.star_at, 9), (Sky.number_of, (1, 0, 5)), (Sky.with_star, (0, 0, 1)),
                            (Sky.with_star, (1, 0, 5)), (Sky.without_star, 0), (Sky.only, [2, 2, 1]), (Sky.only, [9]),
                            (Sky.with_camera, (0, 0, 0, 1)), (Sky.moved, (1, 2, 3)), (Sky.moved, (9, 9, 9)),
                            (is_spot, (0, 0, 5)), (check_sighting, ((0, 0, 5), (0, 0, 4)))]:
            self.assertFalse(changed_by(call, self.sky, given), (call, given))


if __name__ == "__main__":
    unittest.main()
