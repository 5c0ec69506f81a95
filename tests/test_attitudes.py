"""Tests of starward.attitudes: points [6] to [12], and the interface."""

import unittest
from itertools import product
from random import Random

from starward import attitudes as at
from starward.errors import InvalidAttitude, InvalidCommand, InvalidMotion, InvalidSighting, UnknownStar
from starward.sky import Sky
from tests.plain import (all_cameras, changed_by, plain_fits, plain_offset, plain_seen, plain_spots, plain_sure,
                         raised, some_sky, turned_often, what_is_raised)

NO_POSES = [(5, 0, 0), (0, 5, 0), (0, 0, 4), (-1, 0, 0), (0, -1, 0), (0, 0, -1), (), (0,), (0, 0), (0, 0, 0, 0)]
NO_COMMANDS = [(5, 0, 0), (0, 5, 0), (-5, 0, 0), (0, -5, 0), (0, 0, 4), (0, 0, -1), (), (0,), (0, 0), (0, 0, 0, 0)]


def some_skies():
    """Return skies with all cameras of some sides, and stars at all kinds of places."""
    skies = [some_sky(str(camera), side, camera, 9) for side in (4, 5, 6) for camera in all_cameras(side)[::5]]
    return [*skies, some_sky(1, 9, (4, 0, 1, 4), 20), some_sky(2, 9, (3, 1, 1, 4), 20),
            some_sky(3, 8, (2, 1, 2, 7), 20), some_sky(4, 9, (2, 2, 0, 2), 20), some_sky(5, 7, (1, 0, 0, 5), 20)]


def some_attitudes(sky, many):
    """Return some attitudes of the sky, the same ones each time."""
    return Random(sky.side).sample(list(product(range(sky.side), range(sky.side), range(4))), many)


class ListsTest(unittest.TestCase):

    def test_all_attitudes_and_motions_ascending(self):
        for side in range(4, 10):
            sky = Sky(side, [], (1, 0, 0, 1))
            told = list(product(range(side), range(side), range(4)))
            self.assertEqual(at.attitudes(sky), told)
            self.assertEqual(at.motions(sky), told)
            self.assertEqual(len(told), 4 * side * side)

    def test_lists_are_new(self):
        sky = some_sky(1, 5, (2, 0, 0, 1), 8)
        for call in [at.attitudes, at.motions, lambda sky: at.seen_stars(sky, (0, 0, 0)),
                     lambda sky: at.sure_stars(sky, (0, 0, 0))]:
            told = call(sky)
            was = list(told)
            told.append(None)
            self.assertEqual(call(sky), was)


class ChecksTest(unittest.TestCase):

    def setUp(self):
        self.sky = some_sky(1, 5, (1, 1, 1, 2), 5)

    def test_attitudes_and_motions(self):
        poses = set(product(range(5), range(5), range(4)))
        for told in product(range(-2, 8), range(-2, 8), range(-2, 7)):
            is_none = told not in poses
            self.assertEqual(what_is_raised(at.check_attitude, self.sky, told),
                             (InvalidAttitude, {"attitude": told}) if is_none else None)
            self.assertEqual(what_is_raised(at.check_motion, self.sky, told),
                             (InvalidMotion, {"motion": told}) if is_none else None)
        self.assertIsNone(at.check_attitude(self.sky, (4, 4, 3)))
        self.assertIsNone(at.check_motion(self.sky, (4, 4, 3)))

    def test_commands(self):
        for side in (4, 9):
            sky = Sky(side, [], (1, 0, 0, 1))
            for told in product(range(-10, 11), range(-10, 11), range(-1, 6)):
                is_one = abs(told[0]) < side and abs(told[1]) < side and told[2] in (0, 1, 2, 3)
                self.assertEqual(what_is_raised(at.check_command, sky, told),
                                 None if is_one else (InvalidCommand, {"command": told}))
        self.assertIsNone(at.check_command(self.sky, (-4, 4, 3)))

    def test_another_number_of_parts(self):
        for told in [(), (1,), (1, 1), (1, 1, 1, 1), (1, 1, 1, 1, 1, 1)]:
            self.assertEqual(what_is_raised(at.check_attitude, self.sky, told), (InvalidAttitude, {"attitude": told}))
            self.assertEqual(what_is_raised(at.check_motion, self.sky, told), (InvalidMotion, {"motion": told}))
            self.assertEqual(what_is_raised(at.check_command, self.sky, told), (InvalidCommand, {"command": told}))


class OffsetTest(unittest.TestCase):

    def test_turned(self):
        for pair in [(0, 0), (2, 1), (-3, 4), (0, -7), (100, 1)]:
            for quarters in range(-9, 14):
                self.assertEqual(at.turned(quarters, pair), turned_often(quarters % 4, pair))
        self.assertEqual([at.turned(q, (2, 1)) for q in (0, 1, 2, 3, 4, -1, 4 * 10 ** 30 + 1)],
                         [(2, 1), (-1, 2), (-2, -1), (1, -2), (2, 1), (1, -2), (-1, 2)])

    def test_offsets_are_those_that_lead_back(self):
        for sky in some_skies():
            for attitude in some_attitudes(sky, 12):
                for number, star in enumerate(sky.stars):
                    self.assertEqual(at.offset(sky, attitude, number), plain_offset(sky, attitude, star))

    def test_known_offsets(self):
        sky = Sky(4, [(0, 0, 5), (1, 3, 5), (2, 0, 5)], (1, 0, 0, 1))
        self.assertEqual([at.offset(sky, (0, 0, q), 1) for q in range(4)], [(1, -1), (-1, -1), (-1, 1), (1, 1)])
        self.assertEqual([at.offset(sky, (0, 0, q), 2) for q in range(4)], [None] * 4)
        self.assertEqual([at.offset(sky, (3, 3, 0), number) for number in range(3)], [(1, 1), None, (-1, 1)])

    def test_window_as_wide_as_the_sky(self):
        sky = Sky(5, [(0, 0, 9), (1, 0, 4)], (2, 0, 0, 1))
        self.assertEqual([at.offset(sky, (3, 0, 0), number) for number in (0, 1)], [(2, 0), (-2, 0)])
        for attitude in at.attitudes(sky):
            self.assertEqual(at.seen_stars(sky, attitude), [0, 1])

    def test_errors_of_offset(self):
        sky = some_sky(1, 5, (1, 0, 0, 1), 5)
        for attitude in NO_POSES:
            self.assertEqual(what_is_raised(at.offset, sky, attitude, 9), (InvalidAttitude, {"attitude": attitude}))
            self.assertEqual(what_is_raised(at.offset, sky, attitude, 0), (InvalidAttitude, {"attitude": attitude}))
        for number in (-1, 5, 77):
            self.assertEqual(what_is_raised(at.offset, sky, (0, 0, 0), number), (UnknownStar, {"number": number}))


class SeenTest(unittest.TestCase):

    def test_seen_and_sure_stars(self):
        for sky in some_skies():
            for attitude in some_attitudes(sky, 12):
                self.assertEqual(at.seen_stars(sky, attitude), plain_seen(sky, attitude))
                self.assertEqual(at.sure_stars(sky, attitude), plain_sure(sky, attitude))

    def test_rim_of_places(self):
        sky = Sky(9, [(x, 0, 5) for x in range(9)], (2, 1, 0, 5))
        self.assertEqual(at.seen_stars(sky, (4, 0, 0)), [1, 2, 3, 4, 5, 6, 7])
        self.assertEqual(at.sure_stars(sky, (4, 0, 0)), [3, 4, 5])
        self.assertEqual(at.seen_stars(sky, (0, 2, 1)), [0, 1, 2, 3, 6, 7, 8])
        self.assertEqual(at.sure_stars(sky, (0, 1, 1)), [0, 1, 8])
        self.assertEqual(at.sure_stars(sky, (0, 2, 1)), [])
        self.assertEqual([at.seen_stars(sky, (0, y, 0)) for y in (4, 5)], [[], []])

    def test_rim_of_brightnesses(self):
        stars = [(1, 1, brightness) for brightness in range(1, 10)]
        sky = Sky(4, stars, (0, 0, 2, 5))
        self.assertEqual([stars[number][2] for number in at.seen_stars(sky, (1, 1, 2))], [3, 4, 5, 6, 7, 8, 9])
        self.assertEqual([stars[number][2] for number in at.sure_stars(sky, (1, 1, 2))], [7, 8, 9])
        self.assertEqual(at.seen_stars(sky, (1, 2, 2)), [])
        faint = Sky(4, stars, (0, 0, 2, 1))
        self.assertEqual((len(at.seen_stars(faint, (1, 1, 0))), len(at.sure_stars(faint, (1, 1, 0)))), (9, 7))
        strict = Sky(4, stars, (0, 0, 2, 9))
        self.assertEqual((at.seen_stars(strict, (1, 1, 0)), at.sure_stars(strict, (1, 1, 0))), ([6, 7, 8], []))

    def test_errors(self):
        sky = some_sky(1, 5, (1, 0, 0, 1), 5)
        for attitude in NO_POSES:
            for call in (at.seen_stars, at.sure_stars):
                self.assertEqual(what_is_raised(call, sky, attitude), (InvalidAttitude, {"attitude": attitude}))


class FitsTest(unittest.TestCase):

    def test_all_spots(self):
        for side, camera in [(5, (1, 1, 1, 4)), (4, (1, 0, 2, 6)), (7, (2, 1, 0, 5))]:
            sky = some_sky(side, side, camera, 12)
            for attitude in some_attitudes(sky, 8):
                for number, spot in product(range(12), plain_spots(sky)):
                    self.assertIs(at.fits(sky, attitude, number, spot),
                                  plain_fits(sky, attitude, sky.stars[number], spot))

    def test_star_that_a_spot_fits_can_be_seen(self):
        sky = some_sky(7, 5, (1, 1, 2, 4), 12)
        for attitude in some_attitudes(sky, 10):
            fitted = [number for number in range(12)
                      if any(at.fits(sky, attitude, number, spot) for spot in plain_spots(sky))]
            self.assertEqual(fitted, at.seen_stars(sky, attitude))

    def test_bounds_just_reached_and_just_missed(self):
        sky = Sky(9, [(5, 4, 5)], (3, 1, 1, 3))
        for spot, told in [((2, 1, 6), True), ((0, -1, 4), True), ((3, 0, 5), False), ((1, 2, 5), False),
                           ((-1, 0, 5), False), ((1, -2, 5), False), ((1, 0, 7), False), ((1, 0, 3), False)]:
            self.assertIs(at.fits(sky, (4, 4, 0), 0, spot), told, spot)

    def test_star_beyond_the_window(self):
        sky = Sky(5, [(2, 0, 5)], (1, 1, 0, 1))
        self.assertEqual(at.offset(sky, (0, 0, 0), 0), (2, 0))
        self.assertIs(at.fits(sky, (0, 0, 0), 0, (1, 1, 5)), True)
        self.assertIs(at.fits(sky, (0, 0, 0), 0, (0, 0, 5)), False)

    def test_errors_in_order(self):
        sky = some_sky(1, 5, (1, 0, 0, 2), 5)
        for attitude in NO_POSES:
            self.assertEqual(what_is_raised(at.fits, sky, attitude, 9, (9, 9, 9)),
                             (InvalidAttitude, {"attitude": attitude}))
        for number in (-1, 5, 6):
            self.assertEqual(what_is_raised(at.fits, sky, (0, 0, 0), number, (9, 9, 9)),
                             (UnknownStar, {"number": number}))
        for spot in [(2, 0, 5), (0, -2, 5), (0, 0, 1), (0, 0, 10), (), (0, 0), (0, 0, 5, 5)]:
            self.assertIs(type(raised(at.fits, sky, (0, 0, 0), 4, spot)), InvalidSighting, spot)


class CommandTest(unittest.TestCase):

    def test_commanded(self):
        for side in (4, 5, 9):
            sky = Sky(side, [], (1, 0, 0, 1))
            commands = Random(side).sample(list(product(range(1 - side, side), range(1 - side, side), range(4))), 40)
            for (x, y, q), command in product(some_attitudes(sky, 30), commands):
                dx, dy = turned_often(q, (command[0], command[1]))
                goal = ((x + dx) % side, (y + dy) % side, (q + command[2]) % 4)
                self.assertEqual(at.commanded(sky, (x, y, q), command), goal)

    def test_taken_back(self):
        for side in (4, 9):
            sky = Sky(side, [], (1, 0, 0, 1))
            for command in product(range(1 - side, side), range(1 - side, side), range(4)):
                back = at.taken_back(sky, command)
                self.assertTrue(0 <= back[0] < side and 0 <= back[1] < side and 0 <= back[2] <= 3, back)
                for attitude in some_attitudes(sky, 3):
                    goal = at.commanded(sky, attitude, command)
                    self.assertEqual(at.commanded(sky, goal, back), attitude)

    def test_errors(self):
        sky = Sky(5, [], (1, 0, 0, 1))
        for attitude in NO_POSES:
            self.assertEqual(what_is_raised(at.commanded, sky, attitude, (9, 9, 9)),
                             (InvalidAttitude, {"attitude": attitude}))
        for command in NO_COMMANDS:
            expected = (InvalidCommand, {"command": command})
            self.assertEqual(what_is_raised(at.commanded, sky, (0, 0, 0), command), expected)
            self.assertEqual(what_is_raised(at.taken_back, sky, command), expected)

    def test_different_attitudes_stay_different(self):
        sky = Sky(4, [], (1, 0, 0, 1))
        for command in [(0, 0, 0), (-3, 2, 1), (1, 1, 2), (3, 0, 3)]:
            goals = [at.commanded(sky, attitude, command) for attitude in at.attitudes(sky)]
            self.assertEqual(sorted(goals), at.attitudes(sky))


class MotionTest(unittest.TestCase):

    def test_moved(self):
        for side in (4, 7):
            sky = Sky(side, [], (1, 0, 0, 1))
            for (x, y, q), motion in product(some_attitudes(sky, 30), some_attitudes(sky, 40)):
                to_x, to_y = turned_often(motion[2], (x, y))
                goal = ((to_x + motion[0]) % side, (to_y + motion[1]) % side, (q + motion[2]) % 4)
                self.assertEqual(at.moved(sky, (x, y, q), motion), goal)

    def test_just_one_motion_between_two(self):
        sky = Sky(4, [], (1, 0, 0, 1))
        for one in [(0, 0, 0), (3, 1, 2), (1, 2, 3)]:
            found = {}
            for motion in at.motions(sky):
                found.setdefault(at.moved(sky, one, motion), []).append(motion)
            for other in at.attitudes(sky):
                self.assertEqual(found[other], [at.motion_between(sky, one, other)])

    def test_joined_and_reversed(self):
        sky = Sky(5, [], (1, 0, 0, 1))
        motions = some_attitudes(sky, 25)
        for first, second in product(motions, motions):
            both = at.joined(sky, first, second)
            for attitude in [(0, 0, 0), (3, 1, 2)]:
                self.assertEqual(at.moved(sky, attitude, both), at.moved(sky, at.moved(sky, attitude, first), second))
        for motion in at.motions(sky):
            back = at.reversed_motion(sky, motion)
            self.assertEqual(at.joined(sky, motion, back), (0, 0, 0))
            self.assertEqual(at.joined(sky, back, motion), (0, 0, 0))

    def test_sky_and_attitude_moved_alike(self):
        for side, camera in [(5, (1, 1, 1, 4)), (9, (4, 0, 0, 4)), (4, (1, 0, 2, 7))]:
            sky = some_sky(side, side, camera, 9)
            for motion, attitude in product(some_attitudes(sky, 6), some_attitudes(sky, 9)):
                other, goal = sky.moved(motion), at.moved(sky, attitude, motion)
                for number, star in enumerate(sky.stars):
                    x, y = turned_often(motion[2], (star[0], star[1]))
                    place = ((x + motion[0]) % sky.side, (y + motion[1]) % sky.side)
                    same = other.number_of((place[0], place[1], star[2]))
                    self.assertEqual(at.offset(sky, attitude, number), at.offset(other, goal, same))
                    self.assertEqual(number in at.seen_stars(sky, attitude), same in at.seen_stars(other, goal))
                    self.assertEqual(number in at.sure_stars(sky, attitude), same in at.sure_stars(other, goal))

    def test_commands_keep_the_motion(self):
        sky = Sky(5, [], (1, 0, 0, 1))
        for one, other in product(some_attitudes(sky, 12), repeat=2):
            motion = at.motion_between(sky, one, other)
            for command in [(1, 0, 0), (-4, 3, 1), (0, 0, 2), (2, -2, 3)]:
                ends = [at.commanded(sky, attitude, command) for attitude in (one, other)]
                self.assertEqual(at.motion_between(sky, *ends), motion)

    def test_errors_in_order(self):
        sky = Sky(5, [], (1, 0, 0, 1))
        for told in NO_POSES:
            no_attitude, no_motion = (InvalidAttitude, {"attitude": told}), (InvalidMotion, {"motion": told})
            self.assertEqual(what_is_raised(at.moved, sky, told, (9, 9, 9)), no_attitude)
            self.assertEqual(what_is_raised(at.moved, sky, (0, 0, 0), told), no_motion)
            self.assertEqual(what_is_raised(at.motion_between, sky, told, (9, 9, 9)), no_attitude)
            self.assertEqual(what_is_raised(at.motion_between, sky, (0, 0, 0), told), no_attitude)
            self.assertEqual(what_is_raised(at.joined, sky, told, (9, 9, 9)), no_motion)
            self.assertEqual(what_is_raised(at.joined, sky, (0, 0, 0), told), no_motion)
            self.assertEqual(what_is_raised(at.reversed_motion, sky, told), no_motion)


class FarTest(unittest.TestCase):

    def test_apart_counts_steps_around_the_sky(self):
        for side in (4, 5, 9):
            sky = Sky(side, [], (1, 0, 0, 1))
            for one, other in product(some_attitudes(sky, 25), repeat=2):
                steps = [min(k for k in range(side) if (a + k - b) % side == 0 or (a - k - b) % side == 0)
                         for a, b in zip(one[:2], other[:2])]
                expected = max(steps) if one[2] == other[2] else None
                self.assertEqual(at.apart(sky, one, other), expected)
                for slack in range(10):
                    self.assertIs(at.are_far(sky, one, other, slack), expected is None or expected > slack)

    def test_known_distances(self):
        sky = Sky(9, [], (1, 0, 0, 1))
        told = [at.apart(sky, (0, 0, 1), other) for other in [(0, 0, 1), (8, 3, 1), (5, 1, 1), (4, 8, 1), (0, 0, 0)]]
        self.assertEqual(told, [0, 3, 4, 4, None])
        self.assertEqual([at.are_far(sky, (0, 0, 1), (8, 3, 1), slack) for slack in (2, 3)], [True, False])
        self.assertIs(at.are_far(sky, (0, 0, 1), (0, 0, 2), 9), True)
        self.assertIs(at.are_far(sky, (0, 0, 1), (0, 0, 1), 0), False)
        self.assertEqual(at.apart(Sky(4, [], (1, 0, 0, 1)), (0, 0, 0), (2, 3, 0)), 2)

    def test_motions_and_commands_keep_them(self):
        sky = Sky(5, [], (1, 0, 0, 1))
        for one, other in product(some_attitudes(sky, 10), repeat=2):
            for told in [(1, 0, 0), (4, 3, 1), (0, 0, 2), (2, 2, 3)]:
                for call in (at.moved, at.commanded):
                    ends = [call(sky, attitude, told) for attitude in (one, other)]
                    self.assertEqual(at.apart(sky, *ends), at.apart(sky, one, other))

    def test_errors_in_order(self):
        sky = Sky(5, [], (1, 0, 0, 1))
        for told in NO_POSES:
            expected = (InvalidAttitude, {"attitude": told})
            self.assertEqual(what_is_raised(at.apart, sky, told, (9, 9, 9)), expected)
            self.assertEqual(what_is_raised(at.apart, sky, (0, 0, 0), told), expected)
            self.assertEqual(what_is_raised(at.are_far, sky, told, (9, 9, 9), 0), expected)
            self.assertEqual(what_is_raised(at.are_far, sky, (0, 0, 0), told, 9), expected)


class WholeFileTest(unittest.TestCase):

    def test_examples(self):
        sky = Sky(5, [(1, 0, 5), (4, 4, 2), (2, 2, 3)], (1, 1, 1, 2))
        self.assertEqual(sky.stars, ((1, 0, 5), (2, 2, 3), (4, 4, 2)))
        self.assertEqual((at.offset(sky, (0, 0, 0), 0), at.offset(sky, (0, 0, 1), 0), at.offset(sky, (0, 0, 0), 1)),
                         ((1, 0), (0, -1), (2, 2)))
        self.assertEqual((at.seen_stars(sky, (0, 0, 0)), at.sure_stars(sky, (0, 0, 0)), at.sure_stars(sky, (1, 0, 0))),
                         ([0, 1, 2], [], [0]))
        self.assertEqual(at.commanded(sky, (4, 0, 1), (1, 0, 3)), (4, 1, 0))
        self.assertEqual(at.motion_between(sky, (4, 0, 1), (0, 0, 2)), (0, 1, 1))
        self.assertEqual(at.moved(sky, (4, 0, 1), (0, 1, 1)), (0, 0, 2))

    def test_nothing_is_changed(self):
        sky = some_sky(1, 5, (1, 1, 1, 4), 9)
        one, other, wrong = (1, 2, 3), (4, 0, 3), (5, 5, 5)
        for call, *given in [(at.attitudes,), (at.motions,), (at.check_attitude, one), (at.check_attitude, wrong),
                             (at.check_command, wrong), (at.check_motion, wrong), (at.offset, one, 3),
                             (at.offset, one, 9), (at.seen_stars, one), (at.sure_stars, one),
                             (at.fits, one, 2, (0, 0, 5)), (at.commanded, one, (-3, 2, 1)), (at.taken_back, (-3, 2, 1)),
                             (at.moved, one, other), (at.motion_between, one, other), (at.joined, one, other),
                             (at.reversed_motion, one), (at.apart, one, other), (at.are_far, one, other, 1)]:
            self.assertFalse(changed_by(call, sky, *given), call)


if __name__ == "__main__":
    unittest.main()
