"""Tests of starward.sure: points [34] to [36] and [44], and the interface."""

import unittest
from functools import cache
from itertools import product

from starward import sure as su
from starward.attitudes import attitudes
from starward.confuse import check_parting, lack, parting_paper, unlikeness
from starward.errors import TooLarge
from starward.sightings import can_be
from starward.sky import Sky, check_sighting
from tests.plain import (all_cameras, all_parts, changed_by, far_pairs, plain_far, plain_lack, plain_links, plain_sure,
                         plain_unlikeness, some_sky, what_is_raised)

FEW = Sky(5, [(0, 0, 3), (1, 0, 5), (3, 1, 7)], (2, 0, 0, 1))
HALF = Sky(4, [(0, 0, 2), (0, 1, 3), (1, 0, 1), (2, 1, 3)], (1, 0, 0, 1))
# With a blur few skies have a distance above 0.
BLURRED = Sky(9, [(0, 1, 2), (0, 4, 2), (0, 6, 4), (0, 8, 9), (1, 4, 9), (1, 7, 4), (1, 7, 8), (2, 0, 5), (2, 2, 3),
                  (2, 8, 8), (3, 4, 5), (4, 0, 7), (5, 4, 3), (6, 2, 6), (6, 6, 1), (7, 1, 3), (7, 3, 6), (7, 6, 4),
                  (7, 8, 7), (8, 1, 3)], (3, 1, 0, 1))
BOUNDS = [(0, 0), (1, 0), (0, 1), (1, 1), (3, 0)]


@cache
def small_skies():
    """Return skies whose far pairs are few enough for plain searches."""
    return [FEW, Sky(4, [], (1, 0, 0, 1)), some_sky(1, 4, (1, 0, 0, 2), 9), some_sky(3, 4, (1, 0, 1, 4), 12),
            some_sky(2, 5, (1, 1, 1, 2), 4), some_sky(7, 5, (2, 0, 1, 3), 7)]


@cache
def rich_skies():
    """Return skies with many stars, that are sure at some bounds."""
    return [some_sky(3, 5, (2, 0, 0, 1), 20), some_sky(4, 5, (2, 0, 0, 2), 9), some_sky(5, 5, (2, 0, 1, 3), 20)]


@cache
def all_unlike(sky):
    """Return a dict from the pairs of attitudes, the first one less, to their unlikeness."""
    return {(one, other): unlikeness(sky, one, other) for one, other in product(attitudes(sky), repeat=2)
            if one < other}


def plain_distance(sky, slack):
    """Return the distance and the first two far attitudes that have it."""
    told = [(number, *pair) for pair, number in all_unlike(sky).items() if plain_far(sky, *pair, slack)]
    return min(told)


class LackTest(unittest.TestCase):

    def test_unlikeness_against_all_lots(self):
        for sky in small_skies():
            for pair in list(all_unlike(sky))[::61]:
                self.assertEqual(all_unlike(sky)[pair], plain_unlikeness(sky, *pair))

    def lacks(self, sky):
        """Return the lacks of some attitudes by some others."""
        return [lack(sky, one, other) for one in attitudes(sky)[::9] for other in attitudes(sky)[::13]]

    def test_other_cameras(self):
        # Point [34]: one number is changed, and no lack falls, or none grows.
        for seed, side in enumerate((5, 7, 9)):
            cameras = all_cameras(side)
            stars = list(some_sky(seed, side, (0, 0, 0, 1), 14).stars)
            for camera in cameras[seed::29]:
                lacks = self.lacks(Sky(side, stars, camera))
                for place, sign in [(0, 1), (3, -1), (1, -1), (2, -1)]:
                    other = tuple(part + (sign if at == place and place in (0, 3) else at == place)
                                  for at, part in enumerate(camera))
                    if other in cameras:
                        told = self.lacks(Sky(side, stars, other))
                        pairs = zip(lacks, told) if place in (0, 3) else zip(told, lacks)
                        self.assertFalse(any(less > more for less, more in pairs), (side, camera, other))


class DistanceTest(unittest.TestCase):

    def test_against_all_far_pairs(self):
        for sky, slack in product([*small_skies(), *rich_skies()], (0, 1, 2, 9)):
            self.assertEqual(su.least_distance(sky, slack), plain_distance(sky, slack))

    def test_distances(self):
        for sky in [*small_skies(), *rich_skies(), some_sky(1, 6, (2, 0, 0, 3), 9)]:
            told = su.distances(sky)
            self.assertEqual(told, [plain_distance(sky, slack)[0] for slack in range(sky.side // 2 + 1)])
            # Point [36]: it never falls, and from half the side on it stays.
            self.assertEqual(told, sorted(told))
            self.assertEqual(su.least_distance(sky, sky.side // 2), su.least_distance(sky, 9))
            self.assertEqual({pair[0][2] == pair[1][2] for pair in far_pairs(sky, sky.side // 2)}, {False})

    def test_least_distances_with_turned_attitudes_only(self):
        sky = Sky(5, [(0, 0, 5), (1, 0, 5)], (2, 0, 0, 1))
        self.assertEqual(su.distances(sky), [0, 0, 0])
        self.assertEqual(su.least_distance(FEW, 0), (2, (0, 0, 0), (0, 0, 1)))

    def test_slack_just_under_twice_the_blur(self):
        for seed in range(10):
            self.assertEqual(su.distances(some_sky(seed, 9, (3, 1, 0, 1), 20))[:2], [0, 0])
        self.assertEqual(su.distances(some_sky(1, 9, (2, 2, 0, 1), 20)), [0] * 5)
        self.assertEqual(su.distances(BLURRED), [0, 0, 1, 1, 1])
        self.assertIs(su.is_sure(BLURRED, 1, 0, 0), False)
        self.assertIs(su.is_sure(BLURRED, 2, 0, 0), True)
        self.assertIs(su.is_sure(BLURRED, 2, 0, 1), False)

    def test_blur_and_reach_of_twice_the_blur(self):
        for seed, (side, camera) in enumerate([(5, (1, 1, 0, 1)), (7, (2, 1, 0, 1)), (9, (2, 1, 1, 2)),
                                               (9, (2, 2, 0, 1))]):
            self.assertEqual(set(su.distances(some_sky(seed, side, camera, 20))), {0})

    def test_slack_just_under_half_the_side(self):
        self.assertEqual(su.distances(HALF), [0, 0, 1])
        told = [su.least_distance(HALF, slack) for slack in (1, 2, 3, 9)]
        self.assertEqual([number for number, _, _ in told], [0, 1, 1, 1])
        self.assertEqual(told[1:], told[1:2] * 3)
        self.assertEqual([su.is_sure(HALF, slack, 0, 0) for slack in (0, 1, 2, 9)], [False, False, True, True])
        sky = Sky(6, [(0, 1, 1), (0, 4, 1), (4, 0, 1), (4, 0, 2), (4, 3, 3)], (2, 0, 0, 1))
        self.assertEqual(su.distances(sky), [0, 0, 0, 1])

    def test_least_slack(self):
        found = set()
        for sky in [*small_skies(), *rich_skies(), HALF]:
            told = su.distances(sky)
            for errors in [*range(8), 40]:
                right = min([slack for slack, number in enumerate(told) if number > errors], default=None)
                self.assertEqual(su.least_slack(sky, errors), right)
                found.add(right)
        self.assertEqual(found, {None, 0, 2})

    def test_greatest_side(self):
        for camera in [(4, 0, 0, 1), (3, 1, 2, 3)]:
            sky = some_sky(8, 9, camera, 20)
            number, one, other = su.least_distance(sky, 1)
            self.assertEqual(unlikeness(sky, one, other), number)
            self.assertTrue(one < other and plain_far(sky, one, other, 1))
            for first, second in far_pairs(sky, 1)[::397]:
                self.assertGreaterEqual(unlikeness(sky, first, second), number)
            self.assertEqual(su.distances(sky)[1], number)


class SureTest(unittest.TestCase):

    def test_distance_just_at_and_just_above(self):
        for sky, slack in product([*small_skies(), *rich_skies()], (0, 2)):
            number = su.least_distance(sky, slack)[0]
            for missing, false in [*BOUNDS, (number, 0), (0, number), (number - 1, 0), (0, number - 1)]:
                if min(missing, false) >= 0:
                    self.assertIs(su.is_sure(sky, slack, missing, false), number > missing + false)

    def test_examples_that_are_not_sure(self):
        for sky, (missing, false), slack in product([*small_skies(), *rich_skies()], BOUNDS, (0, 1, 9)):
            told = su.unsure_example(sky, slack, missing, false)
            pairs = [pair for pair, number in all_unlike(sky).items()
                     if number <= missing + false and plain_far(sky, *pair, slack)]
            if not pairs:
                self.assertIsNone(told)
                self.assertIs(su.is_sure(sky, slack, missing, false), True)
                continue
            one, other, sighting = told
            self.assertEqual((one, other), min(pairs))
            self.assertIsNone(check_sighting(sky, sighting))
            self.assertIs(can_be(sky, one, sighting, missing, false), True)
            self.assertIs(can_be(sky, other, sighting, missing, false), True)

    def test_no_sighting_lets_far_two_be(self):
        # Point [35], the other way: through all sightings of a tiny sky.
        sky = Sky(4, [(0, 0, 9), (1, 0, 9)], (0, 0, 0, 9))
        for slack in (0, 1, 2):
            for missing, false in [(0, 0), (1, 0)]:
                shared = False
                for many in range(4):
                    sighting = ((0, 0, 9),) * many
                    can = [attitude for attitude in attitudes(sky) if can_be(sky, attitude, sighting, missing, false)]
                    shared = shared or any(plain_far(sky, one, other, slack) for one, other in product(can, can))
                self.assertIs(su.is_sure(sky, slack, missing, false), not shared)


class PaperTest(unittest.TestCase):

    def cases(self):
        """Yield skies with bounds at which they are sure."""
        for sky, slack in product([FEW, *rich_skies(), some_sky(1, 4, (1, 0, 0, 1), 20)], (0, 1)):
            number = su.least_distance(sky, slack)[0]
            if number:
                yield (sky, slack, number - 1, 0)
                yield (sky, slack, 0, 0)

    def test_papers(self):
        for sky, slack, missing, false in self.cases():
            paper = su.sure_paper(sky, slack, missing, false)
            self.assertEqual(sorted(paper), far_pairs(sky, slack))
            for pair in sorted(paper)[::31]:
                self.assertEqual(paper[pair], parting_paper(sky, *pair, missing, false))
            self.assertIs(su.check_sure(sky, slack, missing, false, paper), True)
            number = su.least_distance(sky, slack)[0]
            self.assertIs(su.check_sure(sky, slack, number, 0, paper), False)

    def test_no_paper_where_a_sky_is_not_sure(self):
        for sky, slack in product([*small_skies(), *rich_skies()], (0, 2)):
            number = su.least_distance(sky, slack)[0]
            self.assertIsNone(su.sure_paper(sky, slack, number, 0))
            self.assertIsNone(su.sure_paper(sky, slack, 20, 20))

    def test_too_large(self):
        for side, stars in product((6, 7, 9), ([], [(0, 0, 9)])):
            sky = Sky(side, stars, (1, 0, 0, 1))
            self.assertEqual(what_is_raised(su.sure_paper, sky, 0, 0, 0), (TooLarge, {}))
            self.assertEqual(what_is_raised(su.sure_paper, sky, 9, 20, 20), (TooLarge, {}))
            self.assertIs(su.check_sure(sky, 0, 0, 0, {}), False)
        sky = some_sky(1, 7, (3, 0, 0, 1), 20)
        paper = {pair: parting_paper(sky, *pair, 0, 0) for pair in far_pairs(sky, 3)}
        self.assertIs(su.check_sure(sky, 3, 0, 0, paper), None not in paper.values())

    def test_other_pairs(self):
        paper = su.sure_paper(FEW, 1, 0, 1)
        (one, other), entry = list(paper.items())[7]
        fewer = {pair: paper[pair] for pair in paper if pair != (one, other)}
        self.assertIs(su.check_sure(FEW, 1, 0, 1, paper), True)
        for wrong in [fewer, {**fewer, (other, one): entry}, {**paper, (other, one): entry}, {},
                      {**fewer, ((0, 0, 0), (0, 1, 0)): entry}, {**paper, ((0, 0, 0), (0, 1, 0)): entry},
                      {**fewer, ((0, 0), (0, 1, 0)): entry}, {**fewer, ((9, 9, 9), (9, 9, 9)): entry},
                      {**fewer, ((0, 0, 0), (0, 0, 0)): entry}, {**fewer, ((), ()): entry}]:
            self.assertIs(su.check_sure(FEW, 1, 0, 1, wrong), False)
        self.assertIs(su.check_sure(FEW, 0, 0, 1, paper), False)
        self.assertIs(su.check_sure(FEW, 2, 0, 1, paper), False)

    def test_other_entries_against_plain_searches(self):
        for missing, false in [(0, 0), (1, 0), (0, 1)]:
            paper = su.sure_paper(FEW, 0, missing, false)
            for pair in sorted(paper)[::1501]:
                for word, lot in product(["one", "other", "", "stars"],
                                         [*all_parts(range(4)), [1, 0], [0, 0], [-1], [99], [0, 0, 1]]):
                    side = pair if word == "one" else pair[::-1]
                    right = (word in ("one", "other") and lot in all_parts(plain_sure(FEW, side[0]))
                             and plain_lack(plain_links(FEW, *side), lot) > missing + false)
                    self.assertIs(check_parting(FEW, *pair, missing, false, (word, lot)), right)
                    told = su.check_sure(FEW, 0, missing, false, {**paper, pair: (word, lot)})
                    self.assertIs(told, right)

    def test_papers_are_new(self):
        paper = su.sure_paper(FEW, 0, 0, 0)
        self.assertEqual(len({id(lot) for _, lot in paper.values()}), len(paper))
        for _, lot in paper.values():
            lot.append(99)
        self.assertIs(su.check_sure(FEW, 0, 0, 0, su.sure_paper(FEW, 0, 0, 0)), True)

    def test_nothing_is_changed(self):
        paper = su.sure_paper(FEW, 0, 0, 0)
        wrong = {**paper, ((0, 0, 0), (0, 0, 1)): ("one", [2, 1])}
        for call, given in [(su.least_distance, [0]), (su.distances, []), (su.is_sure, [0, 1, 1]),
                            (su.unsure_example, [0, 1, 1]), (su.least_slack, [1]), (su.sure_paper, [0, 0, 0]),
                            (su.check_sure, [0, 0, 0, paper]), (su.check_sure, [0, 0, 0, wrong])]:
            self.assertFalse(changed_by(call, FEW, *given), call)
        su.distances(FEW).append(0)
        self.assertEqual(len(su.distances(FEW)), 3)


if __name__ == "__main__":
    unittest.main()
