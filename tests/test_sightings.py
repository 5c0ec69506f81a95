"""Tests of starward.sightings: points [18] to [22] and [28], and the interface."""

import unittest
from itertools import combinations_with_replacement, product
from random import Random

from starward import sightings as si
from starward.attitudes import attitudes
from starward.errors import InvalidAttitude, InvalidSighting
from starward.sky import Sky
from tests.plain import (all_matchings, all_parts, changed_by, left_out, no_attitudes, no_sightings, plain_lack,
                         plain_spots, plain_sure, plain_table, raised, some_sighting, some_sky, what_is_raised)

SKY = Sky(7, [(0, 0, 5), (1, 0, 5), (3, 0, 5)], (2, 1, 0, 1))
EQUAL = ((2, 0, 5), (2, 1, 5), (2, 1, 5))
NO_SIGHTINGS = no_sightings(SKY)


def some_cases():
    """Return tuples (sky, attitude, sighting) with few stars and spots, the same ones each time.

    The spots stand beside the stars, so that many of them fit several; blur and glare put stars at the rim.
    """
    cases = [(SKY, (0, 0, 0), EQUAL), (SKY, (0, 0, 0), ()), (Sky(4, [], (0, 0, 0, 1)), (0, 0, 0), ()),
             (Sky(4, [], (0, 0, 0, 1)), (3, 3, 3), ((0, 0, 1), (0, 0, 1)))]
    chance = Random(11)
    for seed, (side, camera) in product(range(16), [(5, (1, 1, 2, 4)), (5, (2, 0, 1, 3)), (7, (2, 1, 1, 2)),
                                                    (4, (1, 0, 2, 5)), (9, (3, 1, 0, 4)), (9, (2, 2, 2, 6))]):
        few = [(x, y, b) for x in range(3) for y in range(2) for b in range(3, 9)]
        sky = Sky(side, chance.sample(few, chance.randrange(5)), camera)
        cases.append((sky, (chance.randrange(3), chance.randrange(2), seed % 4),
                      some_sighting(seed, sky, chance.randrange(5))))
    return cases


class TableTest(unittest.TestCase):

    def test_tables(self):
        for sky, attitude, sighting in some_cases():
            self.assertEqual(si.table_of(sky, attitude, sighting), plain_table(sky, attitude, sighting))

    def test_star_at_the_rim_has_spots(self):
        sky = Sky(5, [(2, 0, 4)], (1, 1, 1, 5))
        self.assertEqual(si.table_of(sky, (0, 0, 0), ((0, 0, 5), (1, 0, 5), (1, 1, 5), (1, 1, 6))), [[1, 2]])
        self.assertEqual(si.need(sky, (0, 0, 0), ()), (0, 0))
        self.assertEqual(si.need(sky, (0, 0, 0), ((0, 0, 5), (1, 0, 5), (1, 1, 5))), (0, 2))

    def test_equal_spots_are_numbered_by_their_places(self):
        self.assertEqual(si.table_of(SKY, (0, 0, 0), EQUAL), [[], [0, 1, 2], [0, 1, 2]])

    def test_tables_are_new(self):
        si.table_of(SKY, (0, 0, 0), EQUAL)[0].append(9)
        self.assertEqual(si.table_of(SKY, (0, 0, 0), EQUAL)[0], [])


class NeedTest(unittest.TestCase):

    def test_need_against_all_matchings(self):
        for sky, attitude, sighting in some_cases():
            table, sure = plain_table(sky, attitude, sighting), plain_sure(sky, attitude)
            told = [left_out(matching, sure, len(sighting)) for matching in all_matchings(table)]
            needed = si.need(sky, attitude, sighting)
            self.assertEqual(needed, (min(first for first, _ in told), min(second for _, second in told)))
            # One matching needs no more of either number, so there is one least tuple.
            self.assertIn(needed, told)
            self.assertEqual(left_out(si.explanation(sky, attitude, sighting), sure, len(sighting)), needed)
            self.assertIn(si.explanation(sky, attitude, sighting), all_matchings(table))
            for missing, false in product(range(6), repeat=2):
                can = any(first <= missing and second <= false for first, second in told)
                self.assertIs(si.can_be(sky, attitude, sighting, missing, false), can)

    def test_empty_sky_and_sighting(self):
        self.assertEqual(si.need(Sky(4, [], (0, 0, 0, 1)), (0, 0, 0), ()), (0, 0))
        self.assertEqual(si.explanation(Sky(4, [], (0, 0, 0, 1)), (0, 0, 0), ()), [])
        self.assertEqual(si.need(Sky(4, [], (0, 0, 0, 1)), (0, 0, 0), ((0, 0, 1),) * 60), (0, 60))
        self.assertEqual(si.need(SKY, (0, 0, 0), ()), (2, 0))

    def test_bounds_just_reached_and_just_missed(self):
        self.assertEqual(si.need(SKY, (0, 0, 0), EQUAL), (1, 1))
        told = [si.can_be(SKY, (0, 0, 0), EQUAL, *bounds) for bounds in [(1, 1), (0, 1), (1, 0), (20, 20), (0, 20)]]
        self.assertEqual(told, [True, False, False, True, False])

    def test_star_or_spot_left_out(self):
        for sky, attitude, sighting in some_cases():
            missing, false = si.need(sky, attitude, sighting)
            for place in range(len(sighting)):
                fewer = si.need(sky, attitude, sighting[:place] + sighting[place + 1:])
                self.assertIn(fewer, [(missing + 1, false), (missing, false - 1), (missing, false)])
            for number in range(len(sky.stars)):
                changes = [(missing, false + 1), (missing, false)]
                if number in plain_sure(sky, attitude):
                    changes.append((missing - 1, false))
                self.assertIn(si.need(sky.without_star(number), attitude, sighting), changes)


class EvidenceTest(unittest.TestCase):

    def right(self, case, missing, false):
        """Return all evidence by a plain search: the words with the lists."""
        sky, attitude, sighting = case
        table, sure = plain_table(sky, attitude, sighting), plain_sure(sky, attitude)
        turned = [[star for star, spots in enumerate(table) if spot in spots] for spot in range(len(sighting))]
        matchings = [told for told in all_matchings(table)
                     if left_out(told, sure, len(sighting))[0] <= missing
                     and left_out(told, sure, len(sighting))[1] <= false]
        stars = [lot for lot in all_parts(sure) if plain_lack(table, lot) > missing]
        spots = [lot for lot in all_parts(range(len(sighting))) if plain_lack(turned, lot) > false]
        return ([("matching", told) for told in matchings], [("stars", lot) for lot in stars],
                [("spots", lot) for lot in spots])

    def test_evidence_and_its_check(self):
        for case in some_cases():
            needed = si.need(*case)
            for missing, false in product(range(4), repeat=2):
                matchings, stars, spots = self.right(case, missing, false)
                told = si.evidence(*case, missing, false)
                self.assertEqual(bool(matchings), not stars and not spots)
                self.assertIs(si.is_evidence(*case, missing, false, told), True)
                for right in (*matchings, *stars, *spots):
                    self.assertIs(si.is_evidence(*case, missing, false, right), True)
                if matchings:
                    self.assertIn(told, matchings)
                else:
                    self.assertEqual(told[0], "stars" if needed[0] > missing else "spots")
                    self.assertEqual(told[1], self.least(stars if stars else spots, case))

    def least(self, right, case):
        """Return the least lot of those that lack most."""
        sky, attitude, sighting = case
        table = plain_table(sky, attitude, sighting)
        if right[0][0] == "spots":
            table = [[star for star, spots in enumerate(table) if spot in spots] for spot in range(len(sighting))]
        greatest = max(plain_lack(table, lot) for _, lot in right)
        return min([lot for _, lot in right if plain_lack(table, lot) == greatest], key=len)

    def test_no_other_lots_and_matchings_are_evidence(self):
        for case in some_cases():
            lots = [*all_parts(range(5)), [0, 0], [1, 0], [-1], [99], [-1, 0], [0, 99]]
            pairs = [[], *[[pair] for pair in product(range(-1, 3), repeat=2)], [(0, 0), (0, 1)], [(1, 1), (0, 0)],
                     [(0, 0), (1, 0)], [(0, 0), (1, 1)], [(99, 0)], [(0, 99)]]
            told = [*[("stars", lot) for lot in lots], *[("spots", lot) for lot in lots],
                    *[("matching", pair) for pair in pairs]]
            for missing, false in [(0, 0), (1, 0), (0, 1), (2, 2)]:
                right = [each for kind in self.right(case, missing, false) for each in kind]
                for each in told:
                    self.assertIs(si.is_evidence(*case, missing, false, each), each in right, (case, each))

    def test_star_that_is_not_sure_is_in_no_lot(self):
        sky = Sky(5, [(0, 0, 5), (1, 0, 5)], (1, 1, 0, 5))
        self.assertIs(si.is_evidence(sky, (0, 0, 0), (), 0, 0, ("stars", [0])), True)
        self.assertIs(si.is_evidence(sky, (0, 0, 0), (), 0, 0, ("stars", [1])), False)
        self.assertIs(si.is_evidence(sky, (0, 0, 0), (), 0, 0, ("stars", [0, 1])), False)
        self.assertEqual(si.evidence(sky, (0, 0, 0), (), 0, 0), ("stars", [0]))

    def test_missing_stars_come_ahead_of_false_spots(self):
        sky = Sky(5, [(0, 0, 5)], (1, 0, 0, 1))
        told = [si.evidence(sky, (0, 0, 0), ((1, 1, 5),), *bounds) for bounds in [(0, 0), (0, 1), (1, 0), (1, 1)]]
        self.assertEqual(told, [("stars", [0]), ("stars", [0]), ("spots", [0]), ("matching", [])])


class AllAttitudesTest(unittest.TestCase):

    def some(self):
        """Return skies with sightings."""
        skies = [some_sky(1, 5, (1, 1, 1, 5), 6), some_sky(2, 4, (1, 0, 0, 2), 9), some_sky(3, 6, (2, 0, 2, 4), 12),
                 Sky(4, [], (1, 0, 0, 1)), some_sky(4, 9, (4, 0, 1, 3), 20)]
        return [(sky, some_sighting(many, sky, many)) for sky in skies for many in (0, 2, 5)]

    def test_needs(self):
        for sky, sighting in self.some():
            told = si.needs(sky, sighting)
            self.assertEqual(list(told), attitudes(sky))
            for attitude, needed in told.items():
                self.assertEqual(needed, si.need(sky, attitude, sighting))

    def test_possible(self):
        for sky, sighting in self.some():
            for missing, false in [(0, 0), (1, 0), (0, 1), (2, 3), (20, 20)]:
                self.assertEqual(si.possible(sky, sighting, missing, false),
                                 [attitude for attitude in attitudes(sky)
                                  if si.can_be(sky, attitude, sighting, missing, false)])

    def test_steps(self):
        for sky, sighting in self.some():
            needed = [si.need(sky, attitude, sighting) for attitude in attitudes(sky)]
            can = [(missing, false) for missing, false in product(range(25), repeat=2)
                   if any(first <= missing and second <= false for first, second in needed)]
            least = [(missing, false) for missing, false in can
                     if (missing - 1, false) not in can and (missing, false - 1) not in can]
            self.assertEqual(si.steps(sky, sighting), least)

    def test_steps_of_any_size(self):
        self.assertEqual(si.steps(Sky(4, [], (0, 0, 0, 1)), ((0, 0, 1),) * 60), [(0, 60)])
        self.assertEqual(si.steps(Sky(4, [], (0, 0, 0, 1)), ()), [(0, 0)])
        sky = Sky(5, [(x, y, 9) for x in range(4) for y in range(5)], (2, 0, 0, 9))
        self.assertEqual(si.steps(sky, ()), [(20, 0)])
        self.assertEqual(si.steps(sky, ((0, 0, 9), (0, 0, 9))), [(19, 1)])
        self.assertEqual(si.possible(sky, (), 19, 20), [])

    def test_steps_with_a_choice(self):
        # Where two stars are seen one is missing; where none is seen the spot is false.
        sky = Sky(5, [(0, 0, 9), (0, 0, 5)], (0, 0, 0, 1))
        self.assertEqual(si.steps(sky, ((0, 0, 5),)), [(0, 1), (1, 0)])
        self.assertEqual(si.possible(sky, ((0, 0, 5),), 1, 0), [(0, 0, q) for q in range(4)])

    def test_answers_are_new(self):
        sky, sighting = self.some()[1]
        for call in (si.needs, si.steps):
            was = call(sky, sighting)
            call(sky, sighting).clear()
            self.assertEqual(call(sky, sighting), was)


class WholeFileTest(unittest.TestCase):

    ONE_ATTITUDE = [(si.table_of, []), (si.need, []), (si.explanation, []), (si.can_be, [0, 0]), (si.evidence, [0, 0]),
                    (si.is_evidence, [0, 0, ("stars", [99])]), (si.is_evidence, [0, 0, ("matching", [(9, 9)])])]
    ALL_ATTITUDES = [(si.possible, [1, 1]), (si.needs, []), (si.steps, [])]

    def test_errors_in_order(self):
        for call, more in self.ONE_ATTITUDE:
            for attitude in no_attitudes(7):
                for sighting in [(), *NO_SIGHTINGS]:
                    self.assertEqual(what_is_raised(call, SKY, attitude, sighting, *more),
                                     (InvalidAttitude, {"attitude": attitude}))
            for sighting in NO_SIGHTINGS:
                self.assertIs(type(raised(call, SKY, (6, 6, 3), sighting, *more)), InvalidSighting)
            self.assertIsNone(raised(call, SKY, (6, 6, 3), EQUAL, *more))

    def test_errors_of_all_attitudes(self):
        for call, more in self.ALL_ATTITUDES:
            for sighting in NO_SIGHTINGS:
                self.assertIs(type(raised(call, SKY, sighting, *more)), InvalidSighting)
            self.assertIsNone(raised(call, SKY, EQUAL, *more))

    def test_nothing_is_changed(self):
        for told in [("matching", [(1, 0)]), ("stars", [0]), ("spots", [2, 1, 0])]:
            self.assertFalse(changed_by(si.is_evidence, SKY, (0, 0, 0), EQUAL, 0, 0, told))
        for call, more in self.ONE_ATTITUDE:
            self.assertFalse(changed_by(call, SKY, (0, 0, 0), EQUAL, *more), call)
        for call, more in self.ALL_ATTITUDES:
            self.assertFalse(changed_by(call, SKY, EQUAL, *more), call)

    def test_examples(self):
        told = ((-1, 0, 5), (1, 0, 5), (2, 0, 5))
        self.assertEqual((si.table_of(SKY, (0, 0, 0), told), si.need(SKY, (0, 0, 0), told)),
                         ([[0, 1], [1, 2], [2]], (0, 0)))
        self.assertEqual((si.need(SKY, (0, 0, 0), EQUAL), si.evidence(SKY, (0, 0, 0), EQUAL, 0, 1),
                          si.evidence(SKY, (0, 0, 0), EQUAL, 1, 0)), ((1, 1), ("stars", [0]), ("spots", [0, 1, 2])))

    def test_many_small_sightings(self):
        # All sightings of at most two spots, against all matchings.
        sky = Sky(4, [(0, 0, 9), (1, 0, 9), (1, 0, 8)], (1, 0, 1, 8))
        for many in range(3):
            for sighting in combinations_with_replacement(plain_spots(sky), many):
                told = [left_out(matching, plain_sure(sky, (0, 0, 1)), many)
                        for matching in all_matchings(plain_table(sky, (0, 0, 1), sighting))]
                self.assertEqual(si.need(sky, (0, 0, 1), sighting), tuple(map(min, zip(*told))))


if __name__ == "__main__":
    unittest.main()
