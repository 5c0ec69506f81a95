"""Tests of starward.confuse: points [29] to [33] and [44], and the interface."""

import unittest
from functools import cache
from itertools import combinations_with_replacement, product
from random import Random

from starward import confuse as co
from starward.attitudes import attitudes
from starward.errors import InvalidAttitude
from starward.sightings import can_be, need
from starward.sky import Sky, check_sighting
from tests.plain import (all_matchings, all_parts, changed_by, no_attitudes, plain_lack, plain_links, plain_seen,
                         plain_spots, plain_sure, some_sky, what_is_raised)

EXAMPLE = Sky(5, [(0, 0, 5), (2, 0, 5)], (1, 0, 0, 1))


@cache
def some_cases():
    """Return tuples (sky, one, other) with few stars near both attitudes, the same ones each time."""
    chance = Random(4)
    cases = [(Sky(4, [], (1, 0, 0, 1)), (0, 0, 0), (1, 0, 0)), (EXAMPLE, (0, 0, 0), (1, 0, 0)),
             (EXAMPLE, (1, 0, 0), (0, 0, 0)), (EXAMPLE, (0, 0, 0), (0, 0, 0))]
    for seed, (side, camera) in product(range(14), [(5, (1, 1, 2, 4)), (5, (2, 0, 1, 3)), (7, (2, 1, 1, 2)),
                                                    (4, (1, 0, 0, 5)), (9, (3, 1, 0, 4)), (9, (4, 0, 0, 3))]):
        few = [(x, y, b) for x in range(4) for y in range(3) for b in range(3, 9)]
        sky = Sky(side, chance.sample(few, chance.randrange(6)), camera)
        one = (chance.randrange(3), chance.randrange(3), seed % 4)
        cases.append((sky, one, (chance.randrange(3), chance.randrange(3), chance.randrange(4))))
    return cases


def least_left_out(table, sure):
    """Return the least number of the sure stars that a matching leaves out."""
    return min(len(sure) - len([1 for star, _ in told if star in sure]) for told in all_matchings(table))


class LinkTest(unittest.TestCase):

    def test_linked_exactly_if_some_spot_fits_both(self):
        for sky, one, other in some_cases():
            table = plain_links(sky, one, other)
            expected = [(first, second) for first, row in enumerate(table) for second in row]
            self.assertEqual(co.linked(sky, one, other), expected)

    def test_bounds_just_reached_and_just_missed(self):
        for far, bright, told in [(2, 7, True), (3, 5, False), (2, 8, False), (1, 3, True), (1, 2, False)]:
            sky = Sky(9, [(0, 0, 5), (4 + far, 4, bright)], (3, 1, 1, 1))
            self.assertIs((0, 1) in co.linked(sky, (0, 0, 0), (4, 4, 0)), told)
            self.assertIs((0, 1) in co.linked(sky, (0, 0, 0), (4 + far, 4 - far, 0)), told)

    def test_star_is_linked_with_itself_at_one_attitude(self):
        for sky, one, _ in some_cases():
            told = co.linked(sky, one, one)
            for number in plain_seen(sky, one):
                self.assertIn((number, number), told)

    def test_stars_that_are_only_seen_are_linked(self):
        sky = Sky(5, [(2, 0, 5), (0, 2, 5)], (1, 1, 0, 1))
        self.assertEqual(plain_sure(sky, (0, 0, 0)), [])
        self.assertEqual(co.linked(sky, (0, 0, 0), (0, 0, 0)), [(0, 0), (0, 1), (1, 0), (1, 1)])
        self.assertEqual(co.linked(sky, (0, 0, 0), (0, 0, 2)), [(0, 1), (1, 0)])


class LackTest(unittest.TestCase):

    def test_lacks_against_all_matchings(self):
        for sky, one, other in some_cases():
            there, back = plain_links(sky, one, other), plain_links(sky, other, one)
            lacks = (least_left_out(there, plain_sure(sky, one)), least_left_out(back, plain_sure(sky, other)))
            self.assertEqual((co.lack(sky, one, other), co.lack(sky, other, one)), lacks)
            self.assertEqual(co.unlikeness(sky, one, other), max(lacks))
            self.assertEqual(co.unlikeness(sky, other, one), max(lacks))

    def test_lacking_lot_against_all_lots(self):
        for sky, one, other in some_cases():
            table, parts = plain_links(sky, one, other), all_parts(plain_sure(sky, one))
            greatest = max(plain_lack(table, lot) for lot in parts)
            self.assertEqual(greatest, co.lack(sky, one, other))
            lacking = [lot for lot in parts if plain_lack(table, lot) == greatest]
            least = [lot for lot in lacking if all(set(lot) <= set(more) for more in lacking)]
            self.assertEqual([co.lacking_lot(sky, one, other)], least)

    def test_two_attitudes_that_are_one(self):
        for sky, one, _ in some_cases():
            self.assertEqual((co.lack(sky, one, one), co.unlikeness(sky, one, one)), (0, 0))
            self.assertEqual(co.lacking_lot(sky, one, one), [])

    def test_couples_leave_out_as_few_of_both_as_any(self):
        for sky, one, other in some_cases():
            told = co.couples(sky, one, other)
            self.assertIn(told, all_matchings(plain_links(sky, one, other)))
            for sure, had, lack in [(plain_sure(sky, one), [first for first, _ in told], co.lack(sky, one, other)),
                                    (plain_sure(sky, other), [second for _, second in told],
                                     co.lack(sky, other, one))]:
                self.assertEqual(len([star for star in sure if star not in had]), lack)


class ConfusableTest(unittest.TestCase):

    def test_confusable_against_all_sightings(self):
        for sky, most_spots in [(Sky(4, [(0, 0, 9), (1, 0, 9), (1, 1, 9)], (1, 0, 0, 9)), 4),
                                (Sky(4, [(0, 0, 9), (1, 0, 8)], (1, 0, 1, 9)), 3),
                                (Sky(5, [(0, 0, 9), (1, 0, 9)], (1, 1, 0, 9)), 3),
                                (Sky(4, [(0, 0, 9), (0, 0, 7), (2, 1, 7)], (0, 0, 1, 8)), 4)]:
            chosen = attitudes(sky)[::5]
            all_needs = []
            for many in range(most_spots + 1):
                for sighting in combinations_with_replacement(plain_spots(sky), many):
                    all_needs.append([need(sky, attitude, sighting) for attitude in chosen])
            for missing, false in [(0, 0), (1, 0), (0, 1)]:
                shared = set()
                for told in all_needs:
                    can = [place for place, (first, second) in enumerate(told) if first <= missing and second <= false]
                    shared.update(product(can, can))
                for first, second in product(range(len(chosen)), repeat=2):
                    self.assertIs(co.are_confusable(sky, chosen[first], chosen[second], missing, false),
                                  (first, second) in shared)

    def test_only_the_sum_counts(self):
        for sky, one, other in some_cases():
            unlike = co.unlikeness(sky, one, other)
            for missing, false in product(range(4), repeat=2):
                self.assertIs(co.are_confusable(sky, one, other, missing, false), unlike <= missing + false)

    def test_confusing_sightings_let_both_be(self):
        for sky, one, other in some_cases():
            for missing, false in product(range(4), repeat=2):
                told = co.confusing_sighting(sky, one, other, missing, false)
                if co.unlikeness(sky, one, other) > missing + false:
                    self.assertIsNone(told)
                    continue
                self.assertIsInstance(told, tuple)
                self.assertIsNone(check_sighting(sky, told))
                self.assertIs(can_be(sky, one, told, missing, false), True)
                self.assertIs(can_be(sky, other, told, missing, false), True)

    def test_confusing_sightings_of_many_stars(self):
        for seed, (side, camera) in enumerate([(5, (2, 0, 0, 1)), (5, (1, 1, 1, 3)), (9, (4, 0, 2, 5)),
                                               (9, (3, 1, 0, 1)), (7, (3, 0, 0, 2)), (6, (2, 0, 1, 2))]):
            sky = some_sky(seed, side, camera, 20)
            for one, other in zip(attitudes(sky)[::11], attitudes(sky)[5::17]):
                least = co.unlikeness(sky, one, other)
                for missing in range(least + 1):
                    told = co.confusing_sighting(sky, one, other, missing, least - missing)
                    for attitude in (one, other):
                        self.assertIs(can_be(sky, attitude, told, missing, least - missing), True)
                if least > 0:
                    self.assertIsNone(co.confusing_sighting(sky, one, other, least - 1, 0))
                    self.assertIsNone(co.confusing_sighting(sky, one, other, 0, least - 1))

    def test_confusable_with(self):
        for sky in [some_sky(1, 4, (1, 0, 0, 4), 8), some_sky(2, 5, (1, 1, 1, 2), 8), Sky(4, [], (1, 0, 0, 1))]:
            for one in attitudes(sky)[::13]:
                for missing, false in [(0, 0), (1, 0), (0, 2), (20, 20)]:
                    told = co.confusable_with(sky, one, missing, false)
                    self.assertEqual(told, [other for other in attitudes(sky)
                                            if co.unlikeness(sky, one, other) <= missing + false])
                    self.assertIn(one, told)


class PaperTest(unittest.TestCase):

    def test_parting_paper(self):
        for sky, one, other in some_cases():
            lacks = (co.lack(sky, one, other), co.lack(sky, other, one))
            for missing, false in product(range(4), repeat=2):
                told = co.parting_paper(sky, one, other, missing, false)
                if max(lacks) <= missing + false:
                    self.assertIsNone(told)
                elif lacks[0] >= lacks[1]:
                    self.assertEqual(told, ("one", co.lacking_lot(sky, one, other)))
                else:
                    self.assertEqual(told, ("other", co.lacking_lot(sky, other, one)))

    def test_some_papers_are_of_each_word(self):
        words = [co.parting_paper(sky, one, other, 0, 0) for sky, one, other in some_cases()]
        self.assertEqual({paper and paper[0] for paper in words}, {"one", "other", None})

    def test_check_against_all_lots(self):
        for sky, one, other in some_cases():
            lots = [*all_parts(range(6)), [0, 0], [1, 0], [-1], [99], [0, 99]]
            right = {"one": (plain_links(sky, one, other), plain_sure(sky, one)),
                     "other": (plain_links(sky, other, one), plain_sure(sky, other)), "both": ([], [])}
            for missing, false in [(0, 0), (1, 0), (0, 1), (1, 1)]:
                found = []
                for word, lot in product(right, lots):
                    table, sure = right[word]
                    expected = lot in all_parts(sure) and plain_lack(table, lot) > missing + false
                    found.append(expected)
                    self.assertIs(co.check_parting(sky, one, other, missing, false, (word, lot)), expected)
                # Point [33]: exactly one of the two.
                self.assertIs(co.are_confusable(sky, one, other, missing, false), not any(found))

    def test_words_that_are_none(self):
        for word in ["", "One", "two", "stars", "one "]:
            self.assertIs(co.check_parting(EXAMPLE, (1, 0, 0), (0, 0, 0), 0, 0, (word, [0, 1])), False)
        self.assertIs(co.check_parting(EXAMPLE, (1, 0, 0), (0, 0, 0), 0, 0, ("one", [0, 1])), True)

    def test_bounds_just_reached_and_just_missed(self):
        told = [co.check_parting(EXAMPLE, (1, 0, 0), (0, 0, 0), *bounds, ("one", [0, 1]))
                for bounds in [(1, 0), (0, 1), (1, 1), (2, 0), (0, 2)]]
        self.assertEqual(told, [True, True, False, False, False])
        told = [co.parting_paper(EXAMPLE, (1, 0, 0), (0, 0, 0), *bounds) for bounds in [(1, 0), (0, 1), (1, 1), (0, 2)]]
        self.assertEqual(told, [("one", [0, 1]), ("one", [0, 1]), None, None])


class WholeFileTest(unittest.TestCase):

    TWO = [(co.linked, []), (co.lack, []), (co.unlikeness, []), (co.lacking_lot, []), (co.couples, []),
           (co.are_confusable, [0, 1]), (co.confusing_sighting, [0, 1]), (co.confusing_sighting, [20, 20]),
           (co.parting_paper, [0, 0]), (co.parting_paper, [20, 20]), (co.check_parting, [0, 1, ("one", [0, 1])]),
           (co.check_parting, [0, 1, ("neither", [])])]

    def test_errors_in_order(self):
        for call, more in self.TWO:
            for told in no_attitudes(5):
                expected = (InvalidAttitude, {"attitude": told})
                self.assertEqual(what_is_raised(call, EXAMPLE, told, (4, 4, 3), *more), expected)
                self.assertEqual(what_is_raised(call, EXAMPLE, told, (9, 9, 9), *more), expected)
                self.assertEqual(what_is_raised(call, EXAMPLE, (4, 4, 3), told, *more), expected)
            self.assertIsNone(what_is_raised(call, EXAMPLE, (4, 4, 3), (0, 0, 0), *more))

    def test_errors_of_confusable_with(self):
        for told in no_attitudes(5):
            self.assertEqual(what_is_raised(co.confusable_with, EXAMPLE, told, 0, 0),
                             (InvalidAttitude, {"attitude": told}))

    def test_nothing_is_changed(self):
        for call, more in [*self.TWO, (co.check_parting, [0, 1, ("other", [1, 0])])]:
            self.assertFalse(changed_by(call, EXAMPLE, (1, 0, 0), (0, 0, 0), *more), call)
        self.assertFalse(changed_by(co.confusable_with, EXAMPLE, (1, 0, 0), 0, 1))

    def test_examples(self):
        self.assertEqual(co.linked(EXAMPLE, (0, 0, 0), (2, 0, 0)), [(0, 1)])
        self.assertEqual([co.unlikeness(EXAMPLE, (0, 0, 0), (2, 0, 0)), co.lack(EXAMPLE, (0, 0, 0), (1, 0, 0)),
                          co.lack(EXAMPLE, (1, 0, 0), (0, 0, 0))], [0, 1, 2])
        self.assertEqual(co.parting_paper(EXAMPLE, (0, 0, 0), (1, 0, 0), 1, 0), ("other", [0, 1]))


if __name__ == "__main__":
    unittest.main()
