"""Tests of starward.worlds: points [75] and [76], and the interface."""

import unittest
from itertools import product
from random import Random

from starward.attitudes import commanded, seen_stars
from starward.errors import InvalidAttitude, InvalidCommand, InvalidShowing, TooLarge, UnknownStar
from starward.filters import course_behind, course_in_all, frontiers, known, known_in_all, needs_of
from starward.seen import look, showing_of
from starward.sightings import explanation
from starward.sky import Sky
from starward.turns import is_course
from starward.worlds import World
from tests.plain import (changed_by, no_attitudes, no_commands, some_sky, told_of_sky, turned_often, what_is_raised)

EXAMPLE = Sky(5, [(0, 0, 9), (1, 0, 4)], (1, 0, 0, 1))


def told_of(world):
    """Return all that a world tells."""
    return (told_of_sky(world.sky_now()), world.attitude_now(), world.log(), world.course(), world.greatest_slip(),
            world.errors())


def some_showing(chance, sky, attitude):
    """Return shifts and false spots of a showing of the attitude."""
    shifts = {}
    for number in seen_stars(sky, attitude):
        shift = (chance.randint(-sky.blur, sky.blur), chance.randint(-sky.blur, sky.blur),
                 chance.randint(-sky.glare, sky.glare))
        if chance.random() < 0.8 and what_is_raised(look, sky, attitude, {number: shift}, []) is None:
            shifts[number] = shift
    false = [(chance.randint(-sky.reach, sky.reach), chance.randint(-sky.reach, sky.reach), 9)
             for _ in range(chance.randrange(3))]
    return shifts, false


def some_world(seed, sky, events, slip):
    """Return a world in which so many things were done, and what each of them returned."""
    chance = Random(seed)
    side = sky.side
    world = World(sky, (chance.randrange(side), chance.randrange(side), chance.randrange(4)))
    returned = []
    for _ in range(events):
        if chance.random() < 0.5:
            command = (chance.randrange(1 - side, side), chance.randrange(1 - side, side), chance.randrange(4))
            returned.append(world.turn(command, (chance.randint(-slip, slip), chance.randint(-slip, slip))))
        else:
            returned.append(world.look(*some_showing(chance, sky, world.attitude_now())))
    return world, returned


def some_skies():
    """Return skies for worlds."""
    return [EXAMPLE, some_sky(1, 5, (1, 1, 1, 3), 8), some_sky(2, 7, (2, 1, 2, 4), 12), Sky(4, [], (0, 0, 0, 1))]


class WorldTest(unittest.TestCase):

    def test_world_without_events(self):
        world = World(EXAMPLE, (4, 3, 2))
        self.assertEqual(told_of(world), (told_of_sky(EXAMPLE), (4, 3, 2), [], [(4, 3, 2)], 0, []))
        self.assertIs(world.sky_now().same_as(EXAMPLE), True)

    def test_turns_lead_with_their_slips(self):
        for slip in product(range(-3, 4), repeat=2):
            for command in [(0, 0, 0), (1, -4, 1), (4, 4, 2), (-2, 3, 3)]:
                for beginning in [(0, 0, 0), (1, 2, 1), (4, 0, 2), (3, 3, 3)]:
                    world = World(EXAMPLE, beginning)
                    told = world.turn(command, slip)
                    x, y = turned_often(beginning[2], (command[0] + slip[0], command[1] + slip[1]))
                    expected = ((beginning[0] + x) % 5, (beginning[1] + y) % 5, (beginning[2] + command[2]) % 4)
                    self.assertEqual((told, world.attitude_now()), (expected, expected))
                    self.assertEqual(world.course(), [beginning, expected])
                    self.assertEqual(world.log(), [("turn", command)])
                    self.assertEqual(world.greatest_slip(), max(map(abs, slip)))
                    self.assertEqual(world.errors(), [])

    def test_greatest_slip_of_several(self):
        for slips, greatest in [([(0, 0)], 0), ([(1, 0), (0, -3), (2, 2)], 3), ([(-2, 1), (1, 1)], 2),
                                ([(0, 1), (0, 0)], 1), ([(-3, 0), (3, 3)], 3)]:
            world = World(EXAMPLE, (0, 0, 0))
            for slip in slips:
                world.turn((1, 0, 0), slip)
            self.assertEqual(world.greatest_slip(), greatest)

    def test_looks_are_those_of_the_present_attitude(self):
        for seed, sky in enumerate(some_skies()):
            chance = Random(seed)
            world = World(sky, (1, 2, 3))
            expected = []
            for _ in range(10):
                there = world.turn((1, 1, 1), (chance.randint(-1, 1), 0))
                shifts, false = some_showing(chance, sky, there)
                sighting, missed = look(sky, there, shifts, false)
                self.assertEqual(world.look(shifts, false), sighting)
                self.assertEqual(world.log()[-1], ("look", sighting))
                self.assertEqual(world.attitude_now(), there)
                expected.append((len(missed), len(false)))
            self.assertEqual(world.errors(), expected)

    def test_all_that_is_told(self):
        for seed, sky in product(range(5), some_skies()):
            world, returned = some_world(seed, sky, 20, 2)
            turned = [told for (word, _), told in zip(world.log(), returned) if word == "turn"]
            seen = [told for (word, _), told in zip(world.log(), returned) if word == "look"]
            self.assertEqual(world.course()[1:], turned)
            self.assertEqual([told for word, told in world.log() if word == "look"], seen)
            self.assertEqual(len(world.errors()), len(seen))
            self.assertEqual(world.attitude_now(), world.course()[-1])
            self.assertEqual(len(world.log()), 20)

    def test_worlds_do_not_share(self):
        one, other = World(EXAMPLE, (0, 0, 0)), World(EXAMPLE, (0, 0, 0))
        one.turn((1, 0, 0), (1, 1))
        one.look({}, [])
        self.assertEqual(told_of(other), told_of(World(EXAMPLE, (0, 0, 0))))


class TruthTest(unittest.TestCase):

    def test_attitude_is_among_those_that_can_be(self):
        for seed, sky in product(range(6), some_skies()):
            world, _ = some_world(seed, sky, 14, seed % 4)
            log, there, slip = world.log(), world.attitude_now(), world.greatest_slip()
            missed, false = [[told[part] for told in world.errors()] for part in (0, 1)]
            each, every = (max([0, *missed]), max([0, *false])), (sum(missed), sum(false))
            self.assertIn(there, known(sky, log, slip, *each))
            self.assertIsNotNone(course_behind(sky, log, slip, *each, there))
            self.assertTrue(any(first <= every[0] and second <= every[1]
                                for first, second in frontiers(sky, log, slip)[there]))
            if max(every) <= 20:
                self.assertIn(there, known_in_all(sky, log, slip, *every))
                self.assertIsNotNone(course_in_all(sky, log, slip, *every, there))
            # Its own course shows it.
            needed = needs_of(sky, log, world.course())
            self.assertTrue(needed[0] <= every[0] and needed[1] <= every[1])
            row = [told for word, told in log if word == "turn"]
            self.assertIs(is_course(sky, world.course(), row, slip), True)

    def test_explained_sightings_can_be_shown(self):
        sky = some_skies()[1]
        world = World(sky, (2, 2, 1))
        sighting = ((-1, 0, 5), (0, 0, 4), (1, 1, 9))
        self.assertEqual(world.look(*showing_of(sky, (2, 2, 1), sighting, explanation(sky, (2, 2, 1), sighting))),
                         sighting)
        self.assertEqual(world.errors(), [needs_of(sky, world.log(), [(2, 2, 1)])])


class FullLogTest(unittest.TestCase):

    def test_60_events_and_no_more(self):
        for sky in (EXAMPLE, some_sky(3, 9, (3, 1, 1, 2), 20)):
            world, _ = some_world(1, sky, 59, 3)
            world.turn((1, 0, 0), (-3, 3))
            was = told_of(world)
            self.assertEqual(len(world.log()), 60)
            self.assertEqual(what_is_raised(world.turn, (1, 0, 0), (0, 0)), (TooLarge, {}))
            self.assertEqual(what_is_raised(world.look, {}, []), (TooLarge, {}))
            # What else is wrong comes first.
            self.assertEqual(what_is_raised(world.turn, (9, 0, 0), (0, 0)), (InvalidCommand, {"command": (9, 0, 0)}))
            self.assertEqual(what_is_raised(world.look, {99: (0, 0, 0)}, []), (UnknownStar, {"number": 99}))
            self.assertEqual(what_is_raised(world.look, {}, [(9, 9, 9)]), (InvalidShowing, {}))
            self.assertEqual(told_of(world), was)

    def test_last_event_may_be_a_look(self):
        world, _ = some_world(2, EXAMPLE, 59, 1)
        self.assertEqual(world.look({}, []), ())
        self.assertEqual(what_is_raised(world.look, {}, []), (TooLarge, {}))

    def test_filters_of_a_full_log(self):
        sky = some_sky(4, 9, (3, 1, 1, 2), 20)
        world, _ = some_world(3, sky, 60, 3)
        missed, false = [max(told[part] for told in world.errors()) for part in (0, 1)]
        self.assertIn(world.attitude_now(), known(sky, world.log(), 3, missed, false))


class WrongTest(unittest.TestCase):

    def test_attitudes_that_are_none(self):
        for told in no_attitudes(5):
            self.assertEqual(what_is_raised(World, EXAMPLE, told), (InvalidAttitude, {"attitude": told}))

    def test_call_that_raises_leaves_the_world(self):
        world, _ = some_world(1, EXAMPLE, 12, 2)
        world.turn((0, -4, 0), (3, 0))
        was = told_of(world)
        for told in no_commands(5):
            self.assertEqual(what_is_raised(world.turn, told, (1, 1)), (InvalidCommand, {"command": told}))
        for shifts, false, expected in [({2: (0, 0, 0), -1: (0, 0, 0)}, [], (UnknownStar, {"number": -1})),
                                        ({5: (7, 7, 7)}, [(9, 9, 9)], (UnknownStar, {"number": 5})),
                                        ({}, [(0, 0, 9), (2, 0, 9)], (InvalidShowing, {})),
                                        ({}, [(0, 0, 9)] * 61, (InvalidShowing, {})),
                                        ({0: (1, 0, 0), 1: (1, 0, 0)}, [], (InvalidShowing, {}))]:
            self.assertEqual(what_is_raised(world.look, shifts, false), expected)
        self.assertEqual(told_of(world), was)

    def test_nothing_that_is_passed_is_changed(self):
        shifts, false = {0: (0, 0, 0)}, [(1, 1, 9), (0, 1, 3)]
        world = World(EXAMPLE, (0, 0, 0))
        self.assertFalse(changed_by(World, EXAMPLE, (0, 0, 0)))
        self.assertFalse(changed_by(lambda _, *given: world.look(*given), EXAMPLE, shifts, false))
        self.assertEqual((shifts, false), ({0: (0, 0, 0)}, [(1, 1, 9), (0, 1, 3)]))
        was = told_of(world)
        shifts[1] = (0, 0, 0)
        false.clear()
        self.assertEqual(told_of(world), was)

    def test_changing_what_a_world_told_changes_no_world(self):
        world, _ = some_world(4, EXAMPLE, 20, 1)
        was = told_of(world)
        for told in (world.log(), world.course(), world.errors()):
            told.append((0, 0))
            told.reverse()
            del told[0]
        self.assertEqual(told_of(world), was)
        self.assertEqual(world.turn((1, 0, 0), (0, 0)), commanded(EXAMPLE, was[1], (1, 0, 0)))

    def test_examples(self):
        world = World(EXAMPLE, (0, 0, 0))
        self.assertEqual((world.look({0: (0, 0, 0)}, []), world.turn((1, 0, 1), (1, 0)), world.errors(),
                          world.greatest_slip()), (((0, 0, 9),), (2, 0, 1), [(1, 0)], 1))
        self.assertEqual(world.log(), [("look", ((0, 0, 9),)), ("turn", (1, 0, 1))])


if __name__ == "__main__":
    unittest.main()
