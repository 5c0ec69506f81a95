"""Tests of starward.keys: points [47] to [50] and [59], and the interface."""

import unittest
from itertools import combinations, product
from random import Random

from starward import keys as ke
from starward.attitudes import attitudes
from starward.errors import InvalidAttitude, InvalidSighting
from starward.sightings import can_be, need, possible
from starward.sky import Sky
from tests.plain import (CallsTest, changed_by, no_attitudes, no_sightings, plain_fits, plain_spots, some_sighting,
                         some_sky, told_of_sky, turned_often)

EXAMPLE = Sky(5, [(0, 0, 5), (1, 0, 3)], (1, 0, 0, 1))
SEEN = ((0, 0, 5), (1, 0, 3))


def some_skies():
    """Return skies with stars near one another, and such with many stars."""
    chance = Random(3)
    skies = [EXAMPLE, Sky(4, [], (1, 0, 0, 1)), Sky(5, [(2, 2, 9)], (1, 1, 2, 1))]
    for seed, (side, camera) in enumerate([(5, (1, 1, 2, 4)), (5, (2, 0, 1, 3)), (7, (2, 1, 1, 2)), (4, (1, 0, 0, 4)),
                                           (9, (2, 2, 0, 4))]):
        few = [(x, y, b) for x in range(3) for y in range(3) for b in range(3, 9)]
        skies.append(Sky(side, chance.sample(few, 5), camera))
        skies.append(some_sky(seed, side, camera, 8))
    return skies


def near_sighting(chance, sky, many):
    """Return a sighting of spots near the stars of a sky."""
    bright = [spot for spot in plain_spots(sky)
              if any(abs(star[2] - spot[2]) <= sky.glare for star in sky.stars)] or plain_spots(sky)
    return tuple(sorted(chance.choices(bright, k=many)))


def plain_votes(sky, attitude, sighting):
    """Return the votes by a plain search through all pairs of spots and of stars."""
    fitting = [[number for number, star in enumerate(sky.stars) if plain_fits(sky, attitude, star, spot)]
               for spot in sighting]
    return len([1 for one, other in combinations(fitting, 2)
                if any(first != second for first, second in product(one, other))])


def around(side, part):
    """Return how many steps a part is from 0, around the sky."""
    return min(part % side, -part % side)


def plain_finds(sky, first, second):
    """Return the finds by a plain search through all pairs of stars and all quarters."""
    found = []
    for (one, star), (other, mate) in product(enumerate(sky.stars), repeat=2):
        if one == other or abs(star[2] - first[2]) > sky.glare or abs(mate[2] - second[2]) > sky.glare:
            continue
        for quarter in range(4):
            x, y = turned_often((4 - quarter) % 4, (mate[0] - star[0], mate[1] - star[1]))
            if (around(sky.side, x - second[0] + first[0]) <= 2 * sky.blur
                    and around(sky.side, y - second[1] + first[1]) <= 2 * sky.blur):
                found.append((one, other, quarter))
    return sorted(found)


class VotesTest(unittest.TestCase):

    def test_against_all_pairs(self):
        chance = Random(4)
        found = set()
        for sky in some_skies():
            for many in (0, 1, 2, 3, 6):
                sighting = near_sighting(chance, sky, many)
                told = {attitude: plain_votes(sky, attitude, sighting) for attitude in attitudes(sky)[::3]}
                for attitude, votes in told.items():
                    self.assertEqual(ke.votes_at(sky, attitude, sighting), votes)
                    found.add(votes)
                kept = ke.Index(sky).votes(sighting)
                self.assertEqual({attitude: kept.get(attitude, 0) for attitude in told}, told)
                self.assertNotIn(0, kept.values())
                self.assertEqual(list(kept), sorted(kept))
                self.assertEqual(kept, {attitude: ke.votes_at(sky, attitude, sighting) for attitude in kept})
        self.assertGreater(len(found), 6)

    def test_equal_spots_and_spots_of_one_star(self):
        sky = Sky(7, [(0, 0, 5), (1, 0, 5), (3, 0, 5)], (2, 1, 0, 1))
        # Both spots fit just the star 0.
        self.assertEqual(ke.votes_at(sky, (0, 0, 0), ((-1, 0, 5), (-1, 0, 5))), 0)
        self.assertEqual(ke.votes_at(sky, (0, 0, 0), ((-1, 0, 5), (-1, 1, 5))), 0)
        # Equal spots of two stars, and three of them, of which at most two can be matched at once.
        self.assertEqual(ke.votes_at(sky, (0, 0, 0), ((0, 0, 5), (0, 0, 5))), 1)
        self.assertEqual(ke.votes_at(sky, (0, 0, 0), ((0, 0, 5),) * 3), 3)
        self.assertEqual(need(sky, (0, 0, 0), ((0, 0, 5),) * 3)[1], 1)
        self.assertEqual(ke.votes_at(sky, (0, 0, 0), ((0, 0, 5), (2, 0, 5), (2, 2, 5))), 1)
        self.assertEqual(ke.votes_at(sky, (0, 0, 0), ()), 0)
        self.assertEqual(ke.votes_at(sky, (0, 0, 0), ((0, 0, 5),)), 0)

    def test_votes_needed(self):
        told = [ke.votes_needed(spots, false) for spots, false in
                [(0, 0), (1, 0), (2, 0), (3, 0), (60, 0), (5, 2), (5, 4), (5, 5), (5, 20), (60, 20)]]
        self.assertEqual(told, [0, 0, 1, 3, 1770, 3, 0, 0, 0, 780])

    def test_no_attitude_is_left_out(self):
        # Point [48].
        chance = Random(5)
        for sky in some_skies():
            for many in (2, 4):
                sighting = near_sighting(chance, sky, many)
                for attitude in attitudes(sky)[::5]:
                    false = need(sky, attitude, sighting)[1]
                    self.assertGreaterEqual(ke.votes_at(sky, attitude, sighting), ke.votes_needed(many, false))

    def test_greatest_sightings(self):
        sky = some_sky(6, 9, (3, 1, 2, 2), 20)
        sighting = some_sighting(6, sky, 60)
        votes = ke.Index(sky).votes(sighting)
        for attitude in attitudes(sky)[::41]:
            self.assertEqual(votes.get(attitude, 0), plain_votes(sky, attitude, sighting))
        self.assertEqual(ke.identify(sky, sighting, 20, 20), possible(sky, sighting, 20, 20))


class FindsTest(unittest.TestCase):

    def test_finds_and_attitudes(self):
        chance = Random(7)
        for sky in some_skies():
            index = ke.Index(sky)
            self.assertEqual(told_of_sky(index.sky), told_of_sky(sky))
            for _ in range(12):
                first, second = chance.choices(near_sighting(chance, sky, 6), k=2)
                finds = index.finds(first, second)
                self.assertEqual(finds, plain_finds(sky, first, second))
                fitting = {attitude: [[number for number, star in enumerate(sky.stars)
                                       if plain_fits(sky, attitude, star, spot)] for spot in (first, second)]
                           for attitude in attitudes(sky)}
                told = [attitude for attitude, both in fitting.items()
                        if any(one != other for one, other in product(*both))]
                self.assertEqual(index.attitudes_for(first, second), told)
                # Point [49]: each such pair of stars is one of the finds, with at most so many attitudes.
                many = {}
                for attitude, both in fitting.items():
                    for one, other in product(*both):
                        if one != other:
                            self.assertIn((one, other, attitude[2]), finds)
                            many[(one, other, attitude[2])] = many.get((one, other, attitude[2]), 0) + 1
                self.assertLessEqual(max(many.values(), default=0), (2 * sky.blur + 1) ** 2)

    def test_offsets_at_both_rims(self):
        sky = Sky(5, [(0, 0, 5), (1, 0, 5)], (2, 0, 0, 1))
        self.assertIn((0, 1, 0), ke.Index(sky).finds((2, 0, 5), (-2, 0, 5)))
        self.assertIn((3, 0, 0), ke.Index(sky).attitudes_for((2, 0, 5), (-2, 0, 5)))
        self.assertEqual(ke.votes_at(sky, (3, 0, 0), ((-2, 0, 5), (2, 0, 5))), 1)

    def test_finds_without_an_attitude(self):
        sky = Sky(9, [(0, 0, 5), (4, 0, 5)], (2, 1, 0, 1))
        finds = ke.Index(sky).finds((0, 0, 5), (2, 0, 5))
        self.assertEqual(finds, [(0, 1, 0), (1, 0, 2)])
        self.assertEqual(ke.Index(sky).finds((0, 0, 5), (1, 0, 5)), [])
        far = Sky(9, [(0, 0, 5), (5, 0, 5)], (2, 0, 0, 1))
        self.assertEqual(ke.Index(far).finds((2, 0, 5), (-2, 0, 5)), [(0, 1, 0), (1, 0, 2)])
        self.assertEqual(ke.Index(far).attitudes_for((2, 0, 5), (-2, 0, 5)), [(7, 0, 0), (7, 0, 2)])

    def test_finds_of_one_star_are_none(self):
        self.assertEqual(ke.Index(Sky(5, [(2, 2, 9)], (1, 1, 2, 1))).finds((0, 0, 9), (0, 0, 9)), [])
        self.assertEqual(ke.Index(Sky(4, [], (1, 0, 0, 1))).attitudes_for((0, 0, 9), (0, 0, 9)), [])


class IdentifyTest(unittest.TestCase):

    def test_candidates_and_identify(self):
        chance = Random(8)
        for sky in some_skies():
            for many in (0, 1, 2, 4):
                sighting = near_sighting(chance, sky, many)
                for missing, false in [(0, 0), (1, 0), (0, 1), (2, 2), (20, many), (20, 20)]:
                    least = max(0, many - false) * (max(0, many - false) - 1) // 2
                    told = [attitude for attitude in attitudes(sky)
                            if plain_votes(sky, attitude, sighting) >= least]
                    self.assertEqual(ke.candidates(sky, sighting, false), told)
                    can = ke.identify(sky, sighting, missing, false)
                    self.assertEqual(can, [attitude for attitude in attitudes(sky)
                                           if can_be(sky, attitude, sighting, missing, false)])
                    self.assertTrue(set(can) <= set(told))
                    if least:
                        # Point [50]: only attitudes of the finds of two spots.
                        index = ke.Index(sky)
                        looked = {attitude for pair in combinations(sighting, 2)
                                  for attitude in index.attitudes_for(*pair)}
                        self.assertTrue(set(can) <= looked)

    def test_no_votes_needed(self):
        self.assertEqual(ke.candidates(EXAMPLE, (), 0), attitudes(EXAMPLE))
        self.assertEqual(ke.candidates(EXAMPLE, SEEN, 1), attitudes(EXAMPLE))
        self.assertEqual(ke.identify(EXAMPLE, (), 0, 0), possible(EXAMPLE, (), 0, 0))

    def test_examples(self):
        self.assertEqual((ke.votes_at(EXAMPLE, (0, 0, 0), SEEN), ke.Index(EXAMPLE).finds(SEEN[0], SEEN[1]),
                          ke.candidates(EXAMPLE, SEEN, 0)), (1, [(0, 1, 0)], [(0, 0, 0)]))
        self.assertEqual(ke.identify(EXAMPLE, SEEN, 1, 1),
                         [(0, 0, 0), (0, 0, 1), (0, 0, 2), (0, 0, 3), (1, 1, 3), (1, 4, 1), (2, 0, 2)])


def call_index(name):
    """Return a function of a sky that calls a method of its index."""
    return lambda sky, *given: getattr(ke.Index(sky), name)(*given)


class WholeFileTest(CallsTest, unittest.TestCase):

    SKY = EXAMPLE
    ATTITUDES = [(told, (InvalidAttitude, {"attitude": told})) for told in no_attitudes(5)]
    SIGHTINGS = [(told, (InvalidSighting, {})) for told in no_sightings(EXAMPLE)]
    SPOTS = [(told[0], (InvalidSighting, {})) for told in no_sightings(EXAMPLE)[:9]]
    CALLS = [(ke.votes_at, [(4, 4, 3), SEEN], [(0, ATTITUDES), (1, SIGHTINGS)]),
             (ke.candidates, [SEEN, 0], [(0, SIGHTINGS)]), (ke.identify, [SEEN, 0, 0], [(0, SIGHTINGS)]),
             (call_index("finds"), list(SEEN), [(0, SPOTS), (1, SPOTS)]),
             (call_index("attitudes_for"), list(SEEN), [(0, SPOTS), (1, SPOTS)]),
             (call_index("votes"), [SEEN], [(0, SIGHTINGS)])]

    def test_answers_are_new(self):
        index = ke.Index(EXAMPLE)
        for call, given in [(index.finds, SEEN), (index.attitudes_for, SEEN), (index.votes, [SEEN]),
                            (ke.candidates, [EXAMPLE, SEEN, 0]), (ke.identify, [EXAMPLE, SEEN, 0, 0])]:
            was = call(*given)
            self.assertTrue(was)
            call(*given).clear()
            self.assertEqual(call(*given), was)
        self.assertFalse(changed_by(ke.Index, EXAMPLE))


if __name__ == "__main__":
    unittest.main()
