"""Tests of what the document promises of several files together, on drawn small skies.

Points [11], [21], [25], [34], [42], [50], [64], [68], [71], [74] and [75].
"""

import unittest
from functools import cache
from itertools import product
from random import Random

from starward.alike import alike_lots, are_alike, check_telling, still_lots, still_motions, telling_sighting
from starward.attitudes import (are_far, attitudes, commanded, motion_between, motions, moved, offset, seen_stars,
                                sure_stars)
from starward.confuse import are_confusable, lack, unlikeness
from starward.enough import enough_spots, hardest_pair, most_shared
from starward.filters import course_behind, course_in_all, known, known_in_all, needs_of
from starward.guides import are_enough, guide_distance
from starward.keys import candidates, identify, votes_at, votes_needed
from starward.plans import check_closed, closed_lot, finding_row, hidden_motions, never_told, tells, telling_row, untold
from starward.roles import false_at, names_of, out_at, pairs_at
from starward.rows import are_confusable_over, course, frames_enough, slowest_pair
from starward.seen import look, showing_of
from starward.sightings import can_be, explanation, need, needs, possible, steps
from starward.sky import Sky, check_sighting
from starward.slips import check_fooling, check_ring, fooling, pairs_behind, rounds
from starward.sure import distances, is_sure, least_distance
from starward.turns import is_course
from starward.whole import is_whole, kept, whole_distance
from starward.worlds import World
from tests.plain import all_cameras, plain_far, some_row, some_sighting, some_sky, what_is_raised

ALL_WAYS = [(1, 0, 0), (0, 1, 0), (0, 0, 1)]


@cache
def drawn_skies():
    """Return small skies with many kinds of cameras, the same ones each time."""
    chance = Random(12)
    skies = []
    for number in range(18):
        side = chance.choice([4, 5, 5])
        camera = all_cameras(side)[number * 7 % len(all_cameras(side))]
        skies.append(some_sky(number, side, camera, chance.choice([0, 1, 3, 6, 12])))
    return [*skies, some_sky(1, 5, (2, 0, 0, 1), 12), some_sky(2, 5, (2, 0, 0, 3), 8), some_sky(3, 5, (1, 1, 1, 2), 9)]


def some_attitudes(chance, sky, many):
    """Return some attitudes of a sky."""
    return chance.choices(attitudes(sky), k=many)


def near_sighting(chance, sky, attitude, false):
    """Return the sighting of a drawn showing, with so many false spots."""
    shifts = {}
    for number in seen_stars(sky, attitude):
        shift = tuple(chance.randint(-bound, bound) for bound in (sky.blur, sky.blur, sky.glare))
        if chance.random() < 0.8 and what_is_raised(look, sky, attitude, {number: shift}, []) is None:
            shifts[number] = shift
    return look(sky, attitude, shifts, list(some_sighting(chance.randrange(99), sky, false)))


class MotionTest(unittest.TestCase):

    def test_sky_and_attitude_moved_by_the_same_motion(self):
        # Point [11].
        chance = Random(1)
        for sky in drawn_skies():
            self.assertEqual((len(attitudes(sky)), len(motions(sky))), (4 * sky.side ** 2,) * 2)
            for motion in chance.choices(motions(sky), k=4):
                other = sky.moved(motion)
                one, two = some_attitudes(chance, sky, 2)
                there = moved(sky, one, motion)
                renamed = [other.number_of((*moved(sky, (*star[:2], 0), motion)[:2], star[2])) for star in sky.stars]
                for number, name in enumerate(renamed):
                    self.assertEqual(offset(sky, one, number), offset(other, there, name))
                self.assertEqual(sorted(renamed[number] for number in sure_stars(sky, one)), sure_stars(other, there))
                for many in range(3):
                    sighting = some_sighting(many, sky, many)
                    self.assertEqual(need(sky, one, sighting), need(other, there, sighting))
                    self.assertEqual(votes_at(sky, one, sighting), votes_at(other, there, sighting))
                self.assertEqual(unlikeness(sky, one, two), unlikeness(other, there, moved(sky, two, motion)))
                self.assertEqual(distances(sky), distances(other))
                self.assertEqual(enough_spots(sky, 1, 1, 0), enough_spots(other, 1, 1, 0))
                guides = [number for number in range(len(sky.stars)) if number % 2]
                self.assertEqual(guide_distance(sky, guides, 0), guide_distance(other, [renamed[k] for k in guides], 0))
                command = some_row(chance.randrange(99), sky.side, 1)[0]
                # The camera tells commands in its own directions, so they are the same in both skies.
                self.assertEqual(frames_enough(sky, command, 0, 1, 0), frames_enough(other, command, 0, 1, 0))
                self.assertEqual(motion_between(sky, one, two),
                                 motion_between(sky, commanded(sky, one, command), commanded(sky, two, command)))

    def test_hidden_and_still_motions(self):
        # Point [74].
        for sky in drawn_skies():
            still, hidden = still_motions(sky), hidden_motions(sky, 0, 0)
            for motion in motions(sky):
                alike = all(are_alike(sky, attitude, moved(sky, attitude, motion)) for attitude in attitudes(sky)[::4])
                self.assertIs(motion in still, alike)
            for missing, false in [(0, 0), (1, 1)]:
                self.assertTrue(set(still) <= set(hidden_motions(sky, missing, false)))
            if sky.blur == sky.glare == 0:
                self.assertEqual(still, hidden)
            lots = still_lots(sky)
            self.assertEqual({len(lot) for lot in lots}, {len(still)})
            self.assertEqual(sorted(attitude for lot in lots for attitude in lot), attitudes(sky))

    def test_alike_attitudes(self):
        # Point [71].
        chance = Random(2)
        for sky in drawn_skies():
            lots = alike_lots(sky)
            for lot in lots:
                for many in range(3):
                    sighting = some_sighting(many, sky, many)
                    self.assertEqual(len({need(sky, attitude, sighting) for attitude in lot[:6]}), 1)
                self.assertEqual(unlikeness(sky, lot[0], lot[-1]), 0)
                self.assertIsNone(telling_sighting(sky, lot[0], lot[-1]))
            for _ in range(10):
                one, other = some_attitudes(chance, sky, 2)
                told = telling_sighting(sky, one, other)
                self.assertIs(told is None, any(one in lot and other in lot for lot in lots))
                if told is not None:
                    self.assertIs(check_telling(sky, one, other, told), True)


class SightingTest(unittest.TestCase):

    def test_one_spot_or_one_star_less(self):
        # Point [21].
        chance = Random(3)
        for sky in drawn_skies():
            for attitude in some_attitudes(chance, sky, 6):
                sighting, _ = near_sighting(chance, sky, attitude, 2)
                missing, false = need(sky, attitude, sighting)
                for place in range(len(sighting)):
                    told = need(sky, attitude, sighting[:place] + sighting[place + 1:])
                    self.assertIn(told, [(missing + 1, false), (missing, false - 1), (missing, false)])
                for number in range(len(sky.stars)):
                    told = need(sky.without_star(number), attitude, sighting)
                    more = [(missing, false + 1), (missing, false)]
                    if number in sure_stars(sky, attitude):
                        more.append((missing - 1, false))
                    self.assertIn(told, more)

    def test_showings_are_what_can_be(self):
        # Point [25].
        chance = Random(4)
        for sky in drawn_skies():
            for attitude in some_attitudes(chance, sky, 8):
                false = chance.randrange(3)
                sighting, missed = near_sighting(chance, sky, attitude, false)
                self.assertIsNone(check_sighting(sky, sighting))
                self.assertIs(can_be(sky, attitude, sighting, len(missed), false), True)
                needed = need(sky, attitude, sighting)
                told = explanation(sky, attitude, sighting)
                shifts, wrong = showing_of(sky, attitude, sighting, told)
                again, out = look(sky, attitude, shifts, wrong)
                self.assertEqual((again, (len(out), len(wrong))), (sighting, needed))
                pairs, certain = pairs_at(sky, attitude, sighting, *needed)
                self.assertTrue(set(certain) <= set(told) <= set(pairs))
                self.assertTrue({spot for spot in range(len(sighting)) if spot not in [k for _, k in told]}
                                <= set(false_at(sky, attitude, sighting, *needed)))
                self.assertTrue({star for star in seen_stars(sky, attitude) if star not in [k for k, _ in told]}
                                <= set(out_at(sky, attitude, sighting, *needed)))

    def test_identify_steps_and_names(self):
        # Points [50], [22] and [24].
        chance = Random(5)
        for sky in drawn_skies():
            sighting, missed = near_sighting(chance, sky, some_attitudes(chance, sky, 1)[0], 1)
            told = needs(sky, sighting)
            self.assertEqual([step for step in steps(sky, sighting) if step not in told.values()], [])
            for missing, false in [(0, 0), (len(missed), 1), (1, 1), (20, 20)]:
                can = possible(sky, sighting, missing, false)
                self.assertEqual(identify(sky, sighting, missing, false), can)
                some = candidates(sky, sighting, false)
                self.assertTrue(set(can) <= set(some))
                least = votes_needed(len(sighting), false)
                self.assertTrue(all(votes_at(sky, attitude, sighting) >= least for attitude in some))
                named = names_of(sky, sighting, missing, false)
                self.assertEqual(any(stars or can_be_false for stars, can_be_false in named),
                                 bool(can) and bool(sighting))
                self.assertIs(bool(can), any(first <= missing and second <= false
                                             for first, second in steps(sky, sighting)))


class SureTest(unittest.TestCase):

    def test_one_number_of_the_camera_more(self):
        # Point [34].
        found = 0
        for sky in drawn_skies():
            cameras = all_cameras(sky.side)
            for place, more, less_lack in [(0, 1, False), (3, -1, False), (1, 1, True), (2, 1, True)]:
                camera = tuple(part + more * (at == place) for at, part in enumerate(sky.camera))
                if camera in cameras:
                    other = sky.with_camera(camera)
                    first, second = (other, sky) if less_lack else (sky, other)
                    for one, two in zip(attitudes(sky)[::7], attitudes(sky)[::-5]):
                        self.assertLessEqual(lack(first, one, two), lack(second, one, two))
                    for less, greater in zip(distances(first), distances(second)):
                        self.assertLessEqual(less, greater)
                    found += 1
        self.assertGreater(found, 20)

    def test_whole_skies(self):
        # Point [42].
        for seed, side in product(range(3), (5, 7)):
            sky = some_sky(seed, side, (side // 2, 0, 0, 1 + seed), 12)
            self.assertIs(is_whole(sky), True)
            many = len([star for star in sky.stars if star[2] >= sky.limit])
            for motion in motions(sky)[::11]:
                self.assertEqual({unlikeness(sky, one, moved(sky, one, motion)) for one in attitudes(sky)[::31]},
                                 {many - len(kept(sky, motion))})
            self.assertEqual([whole_distance(sky, slack) for slack in range(side // 2 + 1)], distances(sky))

    def test_sure_enough_and_found(self):
        for sky, slack, (missing, false) in product(drawn_skies(), (0, 2), [(0, 0), (1, 0), (0, 2)]):
            sure = is_sure(sky, slack, missing, false)
            self.assertIs(sure, least_distance(sky, slack)[0] > missing + false)
            # No far two share a sighting exactly if no spots are needed at all.
            self.assertIs(sure, enough_spots(sky, missing, false, slack) == 0)
            self.assertIs(sure, hardest_pair(sky, missing, false, slack) is None)
            self.assertIs(sure, untold(sky, [], slack, missing, false) == [])
            self.assertIs(sure, fooling(sky, [], 3, slack, missing, false) is None)
            self.assertIs(sure, rounds(sky, [], 0, slack, missing, false) == ("found", 0))
            self.assertIs(sure, finding_row(sky, slack, [(0, 0, 0)], missing, false) == [])
            if are_enough(sky, list(range(len(sky.stars))), slack, missing, false):
                self.assertIs(sure, True)
            command = (1, 0, 1)
            if frames_enough(sky, command, missing, false, slack) is not None:
                one, other = slowest_pair(sky, command, missing, false, slack)
                frames = frames_enough(sky, command, missing, false, slack)
                for many, told in [(frames, False), (frames - 1, True)]:
                    if many:
                        row = [command] * (many - 1)
                        self.assertIs(are_confusable_over(sky, one, other, row, missing, false), told)


class PlanTest(unittest.TestCase):

    def test_rows_that_tell_or_closed_lots(self):
        # Point [64].
        chance = Random(6)
        for sky in drawn_skies():
            for _ in range(6):
                one, other = some_attitudes(chance, sky, 2)
                commands = chance.choice([ALL_WAYS, [(1, 0, 0)], [(0, 1, 1), (2, 0, 0)]])
                given = (one, other, commands, chance.randrange(2), chance.randrange(2))
                row, lot = telling_row(sky, *given), closed_lot(sky, *given)
                self.assertIs(row is None, lot is not None)
                if row is None:
                    self.assertIs(check_closed(sky, *given, lot), True)
                    shared = [most_shared(sky, first, second, *given[3:]) for first, second, _ in lot]
                    self.assertNotIn(None, shared)
                else:
                    self.assertEqual(tells(sky, row, *given[:2], *given[3:]), len(row))
                    last = (course(sky, one, row)[-1], course(sky, other, row)[-1])
                    self.assertIs(are_confusable(sky, *last, *given[3:]), False)

    def test_rounds_or_rings(self):
        # Point [68].
        found = set()
        for seed, sky in enumerate(drawn_skies()):
            for slip, slack, bound in product((0, 1), (0, 1), (0, 1)):
                row = some_row(seed + slip, sky.side, 1 + seed % 3)
                told = rounds(sky, row, slip, slack, bound, 0)
                found.add(told[0])
                for many in range(4):
                    ends = pairs_behind(sky, row * many, slip, bound, 0)
                    some = any(are_far(sky, *pair, slack) for pair in ends)
                    self.assertIs(some, told[0] == "never" or many < told[1])
                    way = fooling(sky, row * many, slip, slack, bound, 0)
                    self.assertIs(way is not None, some)
                    if some:
                        self.assertIs(check_fooling(sky, row * many, slip, slack, bound, 0, way), True)
                if told[0] == "never":
                    self.assertIs(check_ring(sky, row, slip, slack, bound, 0, told[1], told[2]), True)
        self.assertEqual(found, {"found", "never"})

    def test_finding_rows_let_nothing_far_be(self):
        # Point [66], by sightings: what is shown from some attitude along a finding row.
        chance = Random(7)
        found = 0
        for sky in drawn_skies():
            row = finding_row(sky, 1, ALL_WAYS, 0, 0)
            self.assertIs(row is None, never_told(sky, 1, ALL_WAYS, 0, 0) is not None)
            if row is None:
                continue
            found += 1
            for beginning in some_attitudes(chance, sky, 3):
                world = World(sky, beginning)
                # Stars at the rim are shown by chance.
                for command in [None, *row[:20]]:
                    if command is not None:
                        world.turn(command, (0, 0))
                    shown = {star: (0, 0, 0) for star in seen_stars(sky, world.attitude_now())
                             if what_is_raised(look, sky, world.attitude_now(), {star: (0, 0, 0)}, []) is None
                             and (star in sure_stars(sky, world.attitude_now()) or chance.random() < 0.5)}
                    world.look(shown, [])
                if world.errors() == [(0, 0)] * len(world.errors()) and len(row) <= 20:
                    can = known(sky, world.log(), 0, 0, 0)
                    self.assertIn(world.attitude_now(), can)
                    self.assertFalse(any(plain_far(sky, one, other, 1) for one, other in product(can, can)))
        self.assertGreater(found, 1)


class WorldTest(unittest.TestCase):

    def test_worlds_are_known(self):
        # Point [75].
        chance = Random(8)
        for sky in drawn_skies():
            world = World(sky, some_attitudes(chance, sky, 1)[0])
            for _ in range(6):
                if chance.random() < 0.5:
                    world.turn(some_row(chance.randrange(99), sky.side, 1)[0],
                               (chance.randint(-1, 1), chance.randint(-1, 1)))
                else:
                    there = world.attitude_now()
                    sighting, _ = near_sighting(chance, sky, there, chance.randrange(2))
                    told = explanation(sky, there, sighting)
                    self.assertEqual(world.look(*showing_of(sky, there, sighting, told)), sighting)
            errors, slip = world.errors(), world.greatest_slip()
            least = [max([part[at] for part in errors], default=0) for at in (0, 1)]
            sums = [sum(part[at] for part in errors) for at in (0, 1)]
            self.assertIn(world.attitude_now(), known(sky, world.log(), slip, *least))
            self.assertIn(world.attitude_now(), known_in_all(sky, world.log(), slip, *sums))
            row = [told for word, told in world.log() if word == "turn"]
            self.assertIs(is_course(sky, world.course(), row, slip), True)
            self.assertEqual(needs_of(sky, world.log(), world.course()), tuple(sums))
            for call, bounds in [(course_behind, least), (course_in_all, sums)]:
                shown = call(sky, world.log(), slip, *bounds, world.attitude_now())
                self.assertIs(is_course(sky, shown, row, slip), True)
                self.assertEqual(shown[-1], world.attitude_now())

    def test_no_two_orders_of_stars_differ(self):
        for sky in drawn_skies():
            other = Sky(sky.side, list(reversed(sky.stars)), sky.camera)
            self.assertIs(sky.same_as(other), True)
            self.assertEqual(least_distance(sky, 0), least_distance(other, 0))


if __name__ == "__main__":
    unittest.main()
