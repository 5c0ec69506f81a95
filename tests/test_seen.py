"""Tests of starward.seen: points [25] and [28], and the interface."""

import unittest
from itertools import chain, combinations_with_replacement, product
from random import Random

from starward import seen as se
from starward.attitudes import attitudes
from starward.errors import InvalidAttitude, InvalidPaper, InvalidShowing, InvalidSighting, UnknownStar
from starward.sightings import can_be, explanation, need
from starward.sky import Sky
from tests.plain import (CallsTest, all_matchings, no_attitudes, no_sightings, plain_offset, plain_seen, plain_spots,
                         plain_sure, plain_table, some_sighting, some_sky, what_is_raised)

SKY = Sky(7, [(0, 0, 5), (1, 0, 5), (3, 0, 5)], (2, 1, 0, 1))
EQUAL = ((2, 0, 5), (2, 1, 5), (2, 1, 5))
SMALL = [Sky(5, [(0, 0, 8), (1, 0, 9)], (1, 1, 0, 8)), Sky(4, [(0, 0, 8), (1, 0, 9), (0, 3, 6)], (1, 0, 1, 8)),
         Sky(4, [], (0, 0, 0, 9)), Sky(5, [(0, 0, 9), (0, 0, 7), (0, 0, 8)], (0, 0, 1, 8))]


def plain_shifts(sky, more=0):
    """Return all shifts, and those that are at most so much out of their bounds."""
    parts = range(-sky.blur - more, sky.blur + more + 1)
    return list(product(parts, parts, range(-sky.glare - more, sky.glare + more + 1)))


def plain_showings(sky, attitude):
    """Return all dicts of shifts that show stars at the attitude as spots."""
    spots, found = plain_spots(sky), [{}]
    for number in plain_seen(sky, attitude):
        dx, dy = plain_offset(sky, attitude, sky.stars[number])
        for shifts in list(found):
            found.extend([{**shifts, number: shift} for shift in plain_shifts(sky)
                          if (dx + shift[0], dy + shift[1], sky.stars[number][2] + shift[2]) in spots])
    return found


def plain_shown(sky, attitude, shifts):
    """Return the list of the spots by which stars are shown."""
    return [tuple(map(sum, zip((*plain_offset(sky, attitude, sky.stars[number]), sky.stars[number][2]), shift)))
            for number, shift in shifts.items()]


class LookTest(unittest.TestCase):

    def test_all_showings_of_small_skies(self):
        for sky in SMALL:
            for attitude in attitudes(sky)[::7]:
                for shifts in plain_showings(sky, attitude):
                    for many in range(3):
                        false = list(some_sighting(many + len(shifts), sky, many))[::-1]
                        expected = tuple(sorted([*plain_shown(sky, attitude, shifts), *false]))
                        missed = [number for number in plain_sure(sky, attitude) if number not in shifts]
                        self.assertEqual(se.look(sky, attitude, shifts, false), (expected, missed))
                        self.assertEqual(se.look(sky, attitude, dict(reversed(shifts.items())), false[::-1]),
                                         (expected, missed))

    def test_what_is_no_showing(self):
        for sky, attitude in [(SMALL[0], (0, 0, 0)), (SMALL[0], (1, 1, 1)), (SMALL[1], (0, 0, 3)),
                              (SMALL[3], (0, 0, 2)), (SKY, (0, 0, 0)), (Sky(9, SKY.stars, (2, 1, 1, 5)), (0, 1, 0))]:
            right = plain_showings(sky, attitude) if sky is not SKY else None
            for number, shift in product(range(len(sky.stars)), plain_shifts(sky, 1)):
                shifts = {number: shift}
                if right is None:
                    spots = plain_spots(sky)
                    fine = (number in plain_seen(sky, attitude) and shift in plain_shifts(sky)
                            and plain_shown(sky, attitude, shifts)[0] in spots)
                else:
                    fine = shifts in right
                expected = None if fine else (InvalidShowing, {})
                self.assertEqual(what_is_raised(se.look, sky, attitude, shifts, []), expected, (attitude, shifts))

    def test_exactly_if_the_attitude_can_be(self):
        for sky, most_spots in [(SMALL[1], 2), (SMALL[3], 3), (Sky(4, [(0, 0, 9), (1, 0, 9)], (1, 0, 0, 9)), 3)]:
            for attitude in [(0, 0, 0), (1, 0, 3), (1, 1, 1)]:
                found = {}
                for shifts, many in product(plain_showings(sky, attitude), range(most_spots + 1)):
                    for false in combinations_with_replacement(plain_spots(sky), max(0, many - len(shifts))):
                        sighting, missed = se.look(sky, attitude, shifts, list(false))
                        found.setdefault(sighting, []).append((len(missed), len(false)))
                every = chain(*[combinations_with_replacement(plain_spots(sky), many)
                                for many in range(most_spots + 1)])
                for sighting in every:
                    needed = need(sky, attitude, sighting)
                    self.assertIn(needed, found[sighting])
                    self.assertTrue(all(missed >= needed[0] and false >= needed[1]
                                        for missed, false in found[sighting]))

    def test_false_spots_may_be_equal_and_in_any_order(self):
        told = se.look(SKY, (0, 0, 0), {}, [(2, 1, 5), (0, 0, 1), (2, 1, 5), (-2, 2, 9)])
        self.assertEqual(told, (((-2, 2, 9), (0, 0, 1), (2, 1, 5), (2, 1, 5)), [0, 1]))

    def test_showing_without_stars(self):
        self.assertEqual(se.look(SKY, (0, 0, 0), {}, []), ((), [0, 1]))
        self.assertEqual(se.look(SKY, (5, 5, 0), {}, []), ((), []))

    def test_shifts_just_inside_and_just_outside(self):
        sky = Sky(9, [(0, 0, 5), (1, 1, 5)], (2, 1, 1, 4))
        for shift, fine in [((1, -1, 1), True), ((-1, 1, -1), True), ((2, 0, 0), False), ((-2, 0, 0), False),
                            ((0, 2, 0), False), ((0, -2, 0), False), ((0, 0, 2), False), ((0, 0, -2), False)]:
            expected = None if fine else (InvalidShowing, {})
            self.assertEqual(what_is_raised(se.look, sky, (0, 0, 0), {0: shift}, []), expected)
            self.assertEqual(what_is_raised(se.look, sky, (0, 0, 0), {1: (0, 0, 0), 0: shift}, []), expected)

    def test_spots_just_inside_and_just_outside_the_window(self):
        sky = Sky(9, [(3, 0, 5), (0, -2 % 9, 3), (0, 0, 9)], (2, 1, 1, 4))
        numbers = [sky.number_of(star) for star in [(3, 0, 5), (0, 7, 3), (0, 0, 9)]]
        for number, shift, fine in [(0, (-1, 0, 0), True), (0, (0, 0, 0), False), (0, (1, 0, 0), False),
                                    (1, (0, 0, 1), True), (1, (0, 0, 0), False), (1, (0, -1, 1), False),
                                    (1, (0, 1, 1), True), (2, (0, 0, 1), True)]:
            expected = None if fine else (InvalidShowing, {})
            self.assertEqual(what_is_raised(se.look, sky, (0, 0, 0), {numbers[number]: shift}, []), expected)
        for spot, fine in [((2, -2, 4), True), ((-2, 2, 10), True), ((3, 0, 5), False), ((-3, 0, 5), False),
                           ((0, 3, 5), False), ((0, -3, 5), False), ((0, 0, 3), False), ((0, 0, 11), False)]:
            expected = None if fine else (InvalidShowing, {})
            self.assertEqual(what_is_raised(se.look, sky, (0, 0, 0), {}, [(0, 0, 5), spot, (0, 0, 5)]), expected)

    def test_star_that_cannot_be_seen(self):
        far = Sky(9, [(4, 0, 5)], (2, 1, 0, 1))
        self.assertEqual(what_is_raised(se.look, far, (0, 0, 0), {0: (-1, 0, 0)}, []), (InvalidShowing, {}))
        self.assertIsNone(what_is_raised(se.look, far, (1, 0, 0), {0: (-1, 0, 0)}, []))
        dim = Sky(5, [(0, 0, 2)], (1, 0, 1, 4))
        self.assertEqual(what_is_raised(se.look, dim, (0, 0, 0), {0: (0, 0, 1)}, []), (InvalidShowing, {}))

    def test_more_than_60_spots(self):
        sky = some_sky(3, 9, (4, 0, 0, 1), 20)
        every = {number: (0, 0, 0) for number in range(20)}
        self.assertEqual(len(se.look(sky, (0, 0, 0), every, [(0, 0, 5)] * 40)[0]), 60)
        self.assertEqual(len(se.look(sky, (0, 0, 0), {}, [(0, 0, 5)] * 60)[0]), 60)
        for shifts, many in [(every, 41), ({}, 61), ({0: (0, 0, 0)}, 60)]:
            self.assertEqual(what_is_raised(se.look, sky, (0, 0, 0), shifts, [(0, 0, 5)] * many), (InvalidShowing, {}))

    def test_least_number_that_is_none(self):
        wrong = {(0, 3): 3, (3, 0): 3, (-1, 9): -1, (9, 4, -2, 3, -7): -7, (99,): 99, (5, 4, 2): 4}
        for numbers, least in wrong.items():
            # Ahead of any other fault of the showing.
            for shift, false in [((0, 0, 0), []), ((9, 9, 9), [(9, 9, 9)]), ((0, 0, 0), [(0, 0, 5)] * 61)]:
                self.assertEqual(what_is_raised(se.look, SKY, (0, 0, 0), {number: shift for number in numbers}, false),
                                 (UnknownStar, {"number": least}))


class ShowingTest(unittest.TestCase):

    def some(self):
        """Return tuples (sky, attitude, sighting) with few stars and spots."""
        cases = [(SKY, (0, 0, 0), EQUAL), (SKY, (0, 0, 0), ()), (SMALL[2], (0, 0, 0), ((0, 0, 9),))]
        chance = Random(5)
        for seed, (side, camera) in product(range(8), [(5, (1, 1, 2, 4)), (7, (2, 1, 1, 2)), (4, (1, 0, 2, 5))]):
            few = [(x, y, b) for x in range(3) for y in range(2) for b in range(3, 9)]
            sky = Sky(side, chance.sample(few, chance.randrange(5)), camera)
            cases.append((sky, (chance.randrange(3), chance.randrange(2), seed % 4),
                          some_sighting(seed, sky, chance.randrange(5))))
        return cases

    def test_showing_gives_the_sighting(self):
        for sky, attitude, sighting in self.some():
            for told in all_matchings(plain_table(sky, attitude, sighting)):
                shifts, false = se.showing_of(sky, attitude, sighting, told)
                self.assertEqual(sorted(shifts), [star for star, _ in told])
                self.assertEqual(false, [spot for place, spot in enumerate(sighting)
                                         if place not in [matched for _, matched in told]])
                self.assertEqual(plain_shown(sky, attitude, {star: shifts[star] for star, _ in told}),
                                 [sighting[place] for _, place in told])
                missed = [star for star in plain_sure(sky, attitude) if star not in shifts]
                self.assertEqual(se.look(sky, attitude, shifts, false), (sighting, missed))

    def test_explanation_misses_what_is_needed(self):
        for sky, attitude, sighting in self.some():
            shifts, false = se.showing_of(sky, attitude, sighting, explanation(sky, attitude, sighting))
            missed = se.look(sky, attitude, shifts, false)[1]
            self.assertEqual((len(missed), len(false)), need(sky, attitude, sighting))
            self.assertIs(can_be(sky, attitude, sighting, len(missed), len(false)), True)

    def test_lists_that_are_no_matchings(self):
        for sky, attitude, sighting in self.some()[:14]:
            right = all_matchings(plain_table(sky, attitude, sighting))
            pairs = list(product([-1, 0, 1, 2, 5], repeat=2))
            for told in [*[[pair] for pair in pairs], *map(list, product(pairs, repeat=2))]:
                expected = None if told in right else (InvalidPaper, {})
                self.assertEqual(what_is_raised(se.showing_of, sky, attitude, sighting, told), expected)

    def test_60_spots(self):
        sky = some_sky(3, 9, (3, 1, 1, 2), 20)
        sighting = some_sighting(4, sky, 60)
        told = explanation(sky, (4, 4, 1), sighting)
        shifts, false = se.showing_of(sky, (4, 4, 1), sighting, told)
        self.assertEqual(se.look(sky, (4, 4, 1), shifts, false)[0], sighting)
        self.assertEqual(len(false), 60 - len(told))


class WholeFileTest(CallsTest, unittest.TestCase):

    SKY = SKY
    ATTITUDES = [(told, (InvalidAttitude, {"attitude": told})) for told in no_attitudes(7)]
    SIGHTINGS = [(told, (InvalidSighting, {})) for told in no_sightings(SKY)]
    CALLS = [(se.look, [(6, 0, 3), {0: (0, 0, 0)}, [(2, 1, 5), (0, 0, 5)]],
              [(0, ATTITUDES), (1, [({0: (0, 0, 0), 9: (0, 0, 0), 3: (5, 5, 5)}, (UnknownStar, {"number": 3}))]),
               (2, [([(0, 0, 5), (3, 0, 5)], (InvalidShowing, {}))])]),
             (se.look, [(6, 0, 3), {0: (0, 0, 0)}, []],
              [(0, ATTITUDES), (1, [({0: (0, 0, 1)}, (InvalidShowing, {}))])]),
             (se.showing_of, [(0, 0, 0), EQUAL, [(1, 0), (2, 1)]],
              [(0, ATTITUDES), (1, SIGHTINGS), (2, [([(0, 0)], (InvalidPaper, {})), ([(9, 9)], (InvalidPaper, {}))])])]

    def test_answers_are_new(self):
        false = [(2, 1, 5)]
        was = se.look(SKY, (0, 0, 0), {1: (1, 0, 0)}, false)
        se.look(SKY, (0, 0, 0), {1: (1, 0, 0)}, false)[1].append(5)
        shifts, left = se.showing_of(SKY, (0, 0, 0), EQUAL, [])
        left.append((9, 9, 9))
        shifts[0] = (9, 9, 9)
        self.assertEqual(se.look(SKY, (0, 0, 0), {1: (1, 0, 0)}, false), was)
        self.assertEqual(se.showing_of(SKY, (0, 0, 0), EQUAL, []), ({}, list(EQUAL)))

    def test_examples(self):
        self.assertEqual(se.look(SKY, (0, 0, 0), {1: (1, 0, 0), 2: (-1, 1, 0)}, [(2, 1, 5)]), (EQUAL, [0]))
        self.assertEqual(se.showing_of(SKY, (0, 0, 0), EQUAL, [(1, 0), (2, 1)]),
                         ({1: (1, 0, 0), 2: (-1, 1, 0)}, [(2, 1, 5)]))


if __name__ == "__main__":
    unittest.main()
