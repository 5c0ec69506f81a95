"""Tests of starward.roles: points [18], [19], [23], [24] and [28], and the interface; and of starward.bits.Swaps."""

import unittest
from functools import cache
from random import Random

from starward import roles as ro
from starward.bits import Swaps
from starward.errors import InvalidAttitude, InvalidSighting, NotPossible
from starward.sightings import need, possible
from starward.sky import Sky
from tests.plain import (CallsTest, all_cameras, all_matchings, changed_by, left_out, no_attitudes, no_sightings,
                         plain_fits, plain_seen, plain_spots, plain_sure, plain_table, some_sighting, some_sky,
                         what_is_raised)

EXAMPLE = Sky(7, [(0, 0, 5), (1, 0, 5), (3, 0, 5)], (2, 1, 0, 1))
SEEN = ((2, 0, 5), (2, 1, 5), (2, 1, 5))


@cache
def some_cases():
    """Return tuples (sky, attitude, sighting) in which many spots fit some star, the same ones each time."""
    chance = Random(2)
    cases = [(EXAMPLE, (0, 0, 0), SEEN), (EXAMPLE, (0, 0, 0), ()), (Sky(4, [], (1, 0, 0, 1)), (0, 0, 0), ((0, 0, 9),))]
    for _ in range(150):
        side = chance.choice([4, 5, 7])
        camera = chance.choice(all_cameras(side))
        bright = range(max(1, camera[3] - 2), min(9, camera[3] + 3) + 1)
        few = [(x, y, b) for x in range(2) for y in range(3) for b in bright]
        sky = Sky(side, chance.sample(few, chance.randrange(6)), camera)
        attitude = (chance.randrange(2), chance.randrange(2), chance.randrange(4))
        spots = [spot for spot in plain_spots(sky) if spot[2] <= camera[3] + 3]
        near = [spot for spot in spots if any(plain_fits(sky, attitude, star, spot) for star in sky.stars)]
        cases.append((sky, attitude, tuple(sorted(chance.choices(near + spots[:2], k=chance.randrange(6))))))
    return cases


def bounds_around(needed):
    """Return tuples of two numbers around what is needed, just within it and just not."""
    first, second = needed
    told = [(first, second), (first + 1, second), (first, second + 1), (first + 1, second + 1), (20, 20),
            (first - 1, second + 1), (first + 1, second - 1)]
    return [bounds for bounds in told if min(bounds) >= 0]


def explanations(sky, attitude, sighting, missing, false):
    """Return all explanations, by a plain search."""
    sure = plain_sure(sky, attitude)
    found = []
    for told in all_matchings(plain_table(sky, attitude, sighting)):
        out, left = left_out(told, sure, len(sighting))
        if out <= missing and left <= false:
            found.append(told)
    return found


class RolesTest(unittest.TestCase):

    def test_against_all_explanations(self):
        found = set()
        for sky, attitude, sighting in some_cases():
            for bounds in bounds_around(need(sky, attitude, sighting)):
                given = (sky, attitude, sighting, *bounds)
                every = explanations(*given)
                found.add(bool(every))
                if not every:
                    for call in (ro.pairs_at, ro.false_at, ro.out_at):
                        self.assertEqual(what_is_raised(call, *given), (NotPossible, {}))
                    continue
                possible_ones = sorted({pair for told in every for pair in told})
                certain_ones = sorted(set.intersection(*map(set, every)))
                self.assertEqual(ro.pairs_at(*given), (possible_ones, certain_ones))
                false = [spot for spot in range(len(sighting))
                         if any(spot not in [second for _, second in told] for told in every)]
                self.assertEqual(ro.false_at(*given), false)
                out = [star for star in plain_seen(sky, attitude)
                       if any(star not in [first for first, _ in told] for told in every)]
                self.assertEqual(ro.out_at(*given), out)
        self.assertEqual(found, {True, False})

    def test_words_of_the_certain_and_the_possible(self):
        # Point [23]: by what the attitude needs without a spot and a star, and by a table with one link less.
        for sky, attitude, sighting in some_cases()[::4]:
            needed = need(sky, attitude, sighting)
            table, sure = plain_table(sky, attitude, sighting), plain_sure(sky, attitude)
            for missing, false in bounds_around(needed)[:4]:
                told, certain = ro.pairs_at(sky, attitude, sighting, missing, false)
                for star, row in enumerate(table):
                    for spot in row:
                        left = [[other for other in row if other != spot] if number != star else []
                                for number, row in enumerate(table)]
                        self.assertIs((star, spot) in told, self.is_within(
                            left, [other for other in sure if other != star], len(sighting) - 1, missing, false))
                        fewer = [[other for other in row if (number, other) != (star, spot)]
                                 for number, row in enumerate(table)]
                        self.assertIs((star, spot) in certain,
                                      not self.is_within(fewer, sure, len(sighting), missing, false))

    def is_within(self, table, sure, many, missing, false):
        """Return True if what a table needs is within the bounds."""
        told = [left_out(each, sure, many) for each in all_matchings(table)]
        return min(out for out, _ in told) <= missing and min(left for _, left in told) <= false

    def test_stars_at_the_rim_can_always_be_out_if_more_may_be_false(self):
        sky = Sky(5, [(2, 0, 5), (0, 0, 5)], (1, 1, 0, 1))
        self.assertEqual(ro.out_at(sky, (0, 0, 0), ((0, 0, 5), (1, 0, 5)), 0, 0), [])
        self.assertEqual(ro.out_at(sky, (0, 0, 0), ((0, 0, 5), (1, 0, 5)), 0, 1), [1])
        self.assertEqual(ro.out_at(sky, (0, 0, 0), ((0, 0, 5), (1, 0, 5)), 1, 1), [0, 1])
        self.assertEqual(ro.out_at(sky, (0, 0, 0), ((0, 0, 5),), 0, 0), [1])
        self.assertEqual(ro.false_at(sky, (0, 0, 0), ((0, 0, 5), (1, 0, 5)), 0, 1), [0, 1])

    def test_two_spots_that_fit_the_same_star(self):
        sky = Sky(4, [(0, 0, 5)], (1, 0, 0, 1))
        two = ((0, 0, 5), (0, 0, 5))
        self.assertEqual(ro.pairs_at(sky, (0, 0, 0), two, 0, 1), ([(0, 0), (0, 1)], []))
        self.assertEqual(ro.false_at(sky, (0, 0, 0), two, 0, 1), [0, 1])
        self.assertEqual(ro.names_of(sky, two, 0, 1), [([0], True), ([0], True)])
        self.assertEqual(ro.names_of(sky, two, 0, 0), [([], False), ([], False)])
        self.assertEqual(ro.names_of(sky, (), 0, 0), [])


class NamesTest(unittest.TestCase):

    def test_against_all_attitudes(self):
        for sky, _, sighting in some_cases()[::3]:
            for missing, false in [(0, 0), (1, 0), (0, 1), (1, 2), (20, 20)]:
                names, falses = [set() for _ in sighting], [False for _ in sighting]
                for attitude in possible(sky, sighting, missing, false):
                    for star, spot in ro.pairs_at(sky, attitude, sighting, missing, false)[0]:
                        names[spot].add(star)
                    for spot in ro.false_at(sky, attitude, sighting, missing, false):
                        falses[spot] = True
                expected = [(sorted(stars), can) for stars, can in zip(names, falses)]
                self.assertEqual(ro.names_of(sky, sighting, missing, false), expected)

    def test_full_skies_and_greatest_sightings(self):
        chance = Random(5)
        for camera in [(3, 1, 2, 1), (4, 0, 2, 1), (2, 2, 2, 3)]:
            sky = some_sky(1, 9, camera, 20)
            for many in (20, 40, 60):
                sighting = tuple(sorted(chance.choices(plain_spots(sky), k=many)))
                told = ro.names_of(sky, sighting, 20, 20)
                self.assertEqual(len(told), many)
                for attitude in possible(sky, sighting, 20, 20)[:3]:
                    pairs, certain = ro.pairs_at(sky, attitude, sighting, 20, 20)
                    self.assertTrue(set(certain) <= set(pairs))
                    self.assertTrue(all(star in told[spot][0] for star, spot in pairs))
            tight = need(sky, (4, 4, 0), some_sighting(3, sky, 20))
            if max(tight) <= 20:
                self.assertTrue(ro.names_of(sky, some_sighting(3, sky, 20), *tight))


class SwapsTest(unittest.TestCase):

    def test_against_all_matchings(self):
        chance = Random(6)
        for _ in range(400):
            columns = range(chance.randrange(1, 6))
            table = [[column for column in columns if chance.random() < 0.4] for _ in range(chance.randrange(6))]
            every = all_matchings(table)
            most = max(map(len, every))
            every = [told for told in every if len(told) == most]
            swaps = Swaps([sum(1 << column for column in row) for row in table])
            self.assertEqual(swaps.many(), most)
            for row, partners in enumerate(table):
                can = any(row not in [first for first, _ in told] for told in every)
                self.assertIs(swaps.can_omit(row), can)
                for column in partners:
                    self.assertIs(swaps.can_hold(row, column), any((row, column) in told for told in every))
            for column in columns:
                can = any(column not in [second for _, second in told] for told in every)
                self.assertIs(swaps.can_spare(column), can)


class WholeFileTest(CallsTest, unittest.TestCase):

    SKY = EXAMPLE
    ATTITUDES = [(told, (InvalidAttitude, {"attitude": told})) for told in no_attitudes(7)]
    SIGHTINGS = [(told, (InvalidSighting, {})) for told in no_sightings(EXAMPLE)]
    LOW = [(0, (NotPossible, {}))]
    GIVEN = [(0, 0, 0), SEEN, 1, 1]
    WRONG = [(0, ATTITUDES), (1, SIGHTINGS), (2, LOW), (3, LOW)]
    CALLS = [(ro.pairs_at, GIVEN, WRONG), (ro.false_at, GIVEN, WRONG), (ro.out_at, GIVEN, WRONG),
             (ro.names_of, [SEEN, 1, 1], [(0, SIGHTINGS)])]

    def test_answers_are_new(self):
        for call, given in [(ro.false_at, [(0, 0, 0), SEEN, 1, 2]), (ro.out_at, [(0, 0, 0), SEEN, 1, 2]),
                            (ro.names_of, [SEEN, 1, 1])]:
            was = call(EXAMPLE, *given)
            self.assertTrue(was)
            call(EXAMPLE, *given).clear()
            self.assertEqual(call(EXAMPLE, *given), was)
        ro.names_of(EXAMPLE, SEEN, 1, 1)[0][0].append(9)
        self.assertNotIn(9, ro.names_of(EXAMPLE, SEEN, 1, 1)[0][0])
        self.assertFalse(changed_by(ro.names_of, EXAMPLE, SEEN, 0, 0))


if __name__ == "__main__":
    unittest.main()
