"""Tests of starward.enough: points [51] to [54] and [59], and the interface."""

import unittest
from functools import cache
from itertools import combinations_with_replacement, product
from random import Random

from starward import enough as en
from starward.attitudes import attitudes, sure_stars
from starward.confuse import linked, unlikeness
from starward.errors import InvalidAttitude
from starward.sightings import can_be, need
from starward.sky import Sky, check_sighting
from tests.plain import (all_matchings, all_parts, changed_by, far_pairs, no_attitudes, plain_lack, plain_links,
                         plain_seen, plain_spots, plain_sure, some_sky, told_of_sky, what_is_raised, wrong_calls)

EXAMPLE = Sky(5, [(0, 0, 5), (1, 0, 3)], (1, 0, 0, 1))
BOUNDS = [(0, 0), (1, 0), (0, 1), (2, 1), (1, 3)]


@cache
def some_cases():
    """Return tuples (sky, one, other) with few stars near both attitudes, the same ones each time."""
    chance = Random(8)
    cases = [(Sky(4, [], (1, 0, 0, 1)), (0, 0, 0), (1, 0, 0)), (EXAMPLE, (0, 0, 0), (0, 0, 1)),
             (EXAMPLE, (0, 0, 0), (0, 0, 0))]
    for seed, (side, camera) in product(range(10), [(5, (1, 1, 2, 4)), (5, (2, 0, 1, 3)), (7, (2, 1, 1, 2)),
                                                    (4, (1, 0, 0, 5)), (9, (3, 1, 0, 4)), (5, (0, 0, 2, 5))]):
        few = [(x, y, b) for x in range(4) for y in range(3) for b in range(3, 9)]
        sky = Sky(side, chance.sample(few, chance.randrange(6)), camera)
        one = (chance.randrange(3), chance.randrange(3), seed % 4)
        cases.append((sky, one, (chance.randrange(3), chance.randrange(3), chance.randrange(4))))
    return cases


@cache
def small_skies():
    """Return skies whose far pairs are few enough for plain searches."""
    return [some_sky(1, 4, (1, 0, 0, 4), 5), some_sky(3, 4, (1, 0, 2, 6), 9), Sky(4, [], (0, 0, 0, 1)),
            Sky(4, [(0, 0, 9)], (0, 0, 0, 1)), some_sky(2, 5, (1, 1, 1, 2), 4)]


def covers(sky, one, other):
    """Return all covers by a plain search."""
    links = [(first, second) for first, row in enumerate(plain_links(sky, one, other)) for second in row]
    return [(first, second)
            for first, second in product(all_parts(plain_seen(sky, one)), all_parts(plain_seen(sky, other)))
            if all(star in first or mate in second for star, mate in links)]


def plain_most_shared(sky, one, other, missing, false):
    """Return the number of point [52], or None, by a plain search through all links at once."""
    there, back = plain_links(sky, one, other), plain_links(sky, other, one)
    lacks = [plain_lack(there, lot) for lot in all_parts(plain_sure(sky, one))]
    lacks.extend([plain_lack(back, lot) for lot in all_parts(plain_sure(sky, other))])
    if max(lacks) > missing + false:
        return None
    most = max(len(told) for told in all_matchings(there))
    return false + min(most + false, len(plain_seen(sky, one)), len(plain_seen(sky, other)))


@cache
def all_shared(sky, missing, false, slack):
    """Return a dict from the far pairs to what they share, by the function for one pair."""
    return {pair: en.most_shared(sky, *pair, missing, false) for pair in far_pairs(sky, slack)}


class LinksAndCoversTest(unittest.TestCase):

    def test_most_links_against_all_links_at_once(self):
        for sky, one, other in some_cases():
            every = all_matchings(plain_links(sky, one, other))
            told = en.most_links(sky, one, other)
            self.assertIn(told, every)
            self.assertEqual(len(told), max(len(each) for each in every))

    def test_least_cover_against_all_covers(self):
        for sky, one, other in some_cases():
            every = covers(sky, one, other)
            told = en.least_cover(sky, one, other)
            self.assertIn(told, every)
            self.assertEqual(len(told[0]) + len(told[1]), min(len(first) + len(second) for first, second in every))
            # Point [51]: as many as the most links at once.
            self.assertEqual(len(told[0]) + len(told[1]), len(en.most_links(sky, one, other)))

    def test_check_cover_against_all_covers(self):
        for sky, one, other in some_cases():
            right = covers(sky, one, other)
            for cover in product([*all_parts(range(5)), [1, 0], [0, 0], [-1], [99]], repeat=2):
                self.assertIs(en.check_cover(sky, one, other, cover), cover in right)

    def test_star_that_cannot_be_seen_is_in_no_cover(self):
        self.assertIs(en.check_cover(EXAMPLE, (0, 0, 0), (0, 0, 1), ([0, 1], [0, 1])), True)
        self.assertIs(en.check_cover(EXAMPLE, (4, 0, 0), (0, 0, 1), ([0], [0, 1])), True)
        self.assertIs(en.check_cover(EXAMPLE, (4, 0, 0), (0, 0, 1), ([0, 1], [0, 1])), False)
        self.assertIs(en.check_cover(EXAMPLE, (0, 0, 1), (4, 0, 0), ([0, 1], [0, 1])), False)

    def test_stars_at_the_rim_are_linked(self):
        sky = Sky(5, [(2, 0, 5), (0, 2, 5)], (1, 1, 0, 1))
        self.assertEqual(len(en.most_links(sky, (0, 0, 0), (0, 0, 0))), 2)
        self.assertEqual(en.most_links(sky, (0, 0, 0), (0, 0, 2)), [(0, 1), (1, 0)])

    def test_full_skies(self):
        for seed, (side, camera) in enumerate([(5, (2, 0, 2, 1)), (9, (3, 1, 2, 3)), (9, (4, 0, 1, 1)),
                                               (7, (2, 1, 0, 2))]):
            sky = some_sky(seed, side, camera, 20)
            for one, other in zip(attitudes(sky)[::7], attitudes(sky)[::-11]):
                links, cover = en.most_links(sky, one, other), en.least_cover(sky, one, other)
                self.assertTrue(set(links) <= set(linked(sky, one, other)))
                self.assertEqual(links, sorted(links))
                self.assertEqual([len({link[part] for link in links}) for part in (0, 1)], [len(links)] * 2)
                self.assertEqual(len(cover[0]) + len(cover[1]), len(links))
                self.assertIs(en.check_cover(sky, one, other, cover), True)
                for side_of in (0, 1):
                    if cover[side_of]:
                        fewer = [list(part) for part in cover]
                        fewer[side_of].pop()
                        self.assertIs(en.check_cover(sky, one, other, tuple(fewer)), False)


class SharedTest(unittest.TestCase):

    def test_most_shared_against_all_links_at_once(self):
        for sky, one, other in some_cases():
            for missing, false in BOUNDS:
                self.assertEqual(en.most_shared(sky, one, other, missing, false),
                                 plain_most_shared(sky, one, other, missing, false))

    def test_most_shared_against_all_sightings(self):
        for sky, most_spots in [(Sky(4, [(0, 0, 9), (1, 0, 9), (1, 1, 9)], (1, 0, 0, 9)), 5),
                                (Sky(4, [(0, 0, 9), (1, 0, 8)], (1, 0, 1, 9)), 4),
                                (Sky(5, [(0, 0, 9), (1, 0, 9)], (1, 1, 0, 9)), 4),
                                (Sky(4, [(0, 0, 9), (0, 0, 7), (2, 1, 7)], (0, 0, 1, 8)), 6)]:
            chosen = attitudes(sky)[::7]
            greatest = {}
            for many in range(most_spots + 1):
                for sighting in combinations_with_replacement(plain_spots(sky), many):
                    told = [need(sky, attitude, sighting) for attitude in chosen]
                    for missing, false in [(0, 0), (1, 0), (0, 1), (2, 1)]:
                        can = [place for place, (first, second) in enumerate(told)
                               if first <= missing and second <= false]
                        for pair in product(can, can):
                            greatest[(missing, false, *pair)] = many
            self.assertLess(max(greatest.values()), most_spots)
            for missing, false in [(0, 0), (1, 0), (0, 1), (2, 1)]:
                for one, other in product(range(len(chosen)), repeat=2):
                    self.assertEqual(en.most_shared(sky, chosen[one], chosen[other], missing, false),
                                     greatest.get((missing, false, one, other)))

    def check_shared(self, case, missing, false):
        """Check that a shared sighting has the form and the property that the document asks."""
        told, many = en.shared_sighting(*case, missing, false), en.most_shared(*case, missing, false)
        if many is None:
            self.assertIsNone(told)
            return
        sky, one, other = case
        self.assertIsInstance(told, tuple)
        self.assertIsNone(check_sighting(sky, told))
        self.assertEqual(len(told), many)
        self.assertIs(can_be(sky, one, told, missing, false), True)
        self.assertIs(can_be(sky, other, told, missing, false), True)

    def test_shared_sightings(self):
        for case in some_cases():
            for missing, false in product(range(5), repeat=2):
                self.check_shared(case, missing, false)

    def test_shared_sightings_of_full_skies(self):
        for seed, (side, camera) in enumerate([(5, (2, 0, 0, 1)), (5, (1, 1, 1, 3)), (9, (4, 0, 2, 5)),
                                               (9, (3, 1, 0, 1)), (9, (2, 2, 2, 4)), (6, (2, 0, 1, 2))]):
            sky = some_sky(seed, side, camera, 20)
            for one, other in zip(attitudes(sky)[::11], attitudes(sky)[5::17]):
                least = unlikeness(sky, one, other)
                for missing in range(least + 1):
                    self.check_shared((sky, one, other), missing, least - missing)
                for missing, false in [(0, least + 3), (20, 20), (least, 1), (least, 20)]:
                    self.check_shared((sky, one, other), missing, false)

    def test_bounds_just_reached_and_just_missed(self):
        told = [en.most_shared(EXAMPLE, (0, 0, 0), (0, 0, 1), *bounds) for bounds in [(0, 0), (1, 0), (0, 1), (20, 1)]]
        self.assertEqual(told, [None, 1, 3, 3])
        told = [en.shared_sighting(EXAMPLE, (0, 0, 0), (0, 0, 1), *bounds) for bounds in [(0, 0), (1, 0)]]
        self.assertEqual(told, [None, ((0, 0, 5),)])

    def test_one_attitude_twice(self):
        for sky, one, _ in some_cases():
            seen = len(plain_seen(sky, one))
            for missing, false in BOUNDS:
                self.assertEqual(en.most_shared(sky, one, one, missing, false), seen + false)

    def test_spots_without_a_star(self):
        sky = Sky(4, [], (1, 0, 0, 1))
        self.assertEqual(en.most_shared(sky, (0, 0, 0), (1, 1, 1), 0, 20), 20)
        self.assertEqual(len(en.shared_sighting(sky, (0, 0, 0), (1, 1, 1), 0, 20)), 20)
        self.assertEqual(en.shared_sighting(sky, (0, 0, 0), (1, 1, 1), 20, 0), ())


class EnoughTest(unittest.TestCase):

    def test_enough_spots_and_hardest_pair(self):
        for sky in small_skies():
            for (missing, false), slack in [*product(BOUNDS, (0, 1)), ((0, 1), 2), ((1, 0), 9)]:
                shared = {pair: many for pair, many in all_shared(sky, missing, false, slack).items()
                          if many is not None}
                most = max(shared.values(), default=-1)
                self.assertEqual(en.enough_spots(sky, missing, false, slack), most + 1)
                first = min([pair for pair, many in shared.items() if many == most], default=None)
                self.assertEqual(en.hardest_pair(sky, missing, false, slack), first)

    def test_hardest_pairs_that_stand_behind_others(self):
        found = set()
        for sky in [Sky(4, [(2, 2, 5), (2, 3, 5), (3, 2, 5)], (1, 0, 0, 1)),
                    Sky(5, [(3, 3, 9), (4, 3, 9)], (1, 0, 0, 1)),
                    Sky(5, [(4, 4, 9), (4, 4, 8), (4, 3, 8)], (0, 0, 1, 3)), some_sky(8, 5, (1, 1, 1, 4), 6)]:
            for (missing, false), slack in [((0, 0), 0), ((20, 0), 1), ((1, 1), 1), ((3, 0), 2)]:
                shared = {pair: many for pair, many in all_shared(sky, missing, false, slack).items()
                          if many is not None}
                most = max(shared.values())
                pair = en.hardest_pair(sky, missing, false, slack)
                self.assertEqual(pair, min(pair for pair, many in shared.items() if many == most))
                found.add(pair[0])
        self.assertGreater(len(found), 3)

    def test_no_two_far_attitudes_that_are_confusable(self):
        sky = Sky(5, [(0, 0, 3), (1, 0, 5), (3, 1, 7)], (2, 0, 0, 1))
        self.assertEqual((en.enough_spots(sky, 0, 0, 0), en.hardest_pair(sky, 0, 0, 0)), (0, None))
        self.assertEqual({entry[0] for entry in en.enough_paper(sky, 0, 0, 0).values()}, {"lot"})
        self.assertGreater(en.enough_spots(sky, 1, 1, 0), 0)

    def test_one_more_error_and_one_more_slack(self):
        for sky in small_skies():
            for (missing, false), slack in product(BOUNDS[:3], (0, 1)):
                many = en.enough_spots(sky, missing, false, slack)
                self.assertGreaterEqual(en.enough_spots(sky, missing + 1, false, slack), many)
                self.assertGreaterEqual(en.enough_spots(sky, missing, false + 1, slack), many)
                self.assertLessEqual(en.enough_spots(sky, missing, false, slack + 1), many)
                sharing = [[pair for pair, shared in all_shared(sky, missing, bound, slack).items()
                            if shared is not None] for bound in (false, false + 1)]
                if many and sharing[0] == sharing[1]:
                    self.assertIn(en.enough_spots(sky, missing, false + 1, slack) - many, (1, 2))

    def test_whatever_has_enough_spots_is_shared_by_no_far_two(self):
        for sky in (Sky(4, [(0, 0, 9), (1, 0, 9)], (1, 0, 0, 9)), Sky(4, [(0, 0, 9), (2, 2, 8)], (0, 0, 0, 8))):
            for missing, false in [(0, 0), (1, 0), (0, 1)]:
                many = en.enough_spots(sky, missing, false, 0)
                sharing = {length: False for length in range(many + 2)}
                for length in sharing:
                    for sighting in combinations_with_replacement(plain_spots(sky), length):
                        can = [attitude for attitude in attitudes(sky)
                               if can_be(sky, attitude, sighting, missing, false)]
                        sharing[length] = sharing[length] or len(can) > 1
                self.assertEqual([length for length in sharing if length >= many and sharing[length]], [])
                self.assertTrue(many == 0 or sharing[many - 1])


class PaperTest(unittest.TestCase):

    def check_entry(self, sky, pair, bounds, number, entry):
        """Check by plain searches that an entry of a paper is right."""
        (missing, false), (word, first, second) = bounds, entry
        if word == "lot":
            side = [pair, pair[::-1]][first]
            self.assertIn(second, all_parts(plain_sure(sky, side[0])))
            self.assertGreater(plain_lack(plain_links(sky, *side), second), missing + false)
            return
        seen = [plain_seen(sky, attitude) for attitude in pair]
        self.assertEqual(word, "cover")
        self.assertIn(first, all_parts(seen[0]))
        self.assertIn(second, all_parts(seen[1]))
        links = [(star, mate) for star, row in enumerate(plain_links(sky, *pair)) for mate in row]
        self.assertTrue(all(star in first or mate in second for star, mate in links))
        self.assertLess(false + min(len(first) + len(second) + false, len(seen[0]), len(seen[1])), number)

    def test_entries_are_right(self):
        for sky, (missing, false), slack in product(small_skies(), BOUNDS, (0, 1)):
            number = en.enough_spots(sky, missing, false, slack)
            paper = en.enough_paper(sky, missing, false, slack)
            self.assertEqual(sorted(paper), far_pairs(sky, slack))
            for pair in sorted(paper)[::97]:
                self.check_entry(sky, pair, (missing, false), number, paper[pair])

    def test_papers_show_just_what_is_enough(self):
        for sky, (missing, false), slack in product(small_skies()[:4], BOUNDS[:4], (0, 2)):
            number = en.enough_spots(sky, missing, false, slack)
            paper = en.enough_paper(sky, missing, false, slack)
            for told, right in [(number, True), (number + 1, True), (99, True), (number - 1, False), (0, False)]:
                if told >= 0:
                    self.assertIs(en.shows_enough(sky, missing, false, slack, told, paper), right or number == 0)

    def test_other_pairs(self):
        sky = small_skies()[0]
        number, paper = en.enough_spots(sky, 0, 1, 1), en.enough_paper(sky, 0, 1, 1)
        (one, other), entry = list(paper.items())[3]
        fewer = {pair: paper[pair] for pair in paper if pair != (one, other)}
        self.assertIs(en.shows_enough(sky, 0, 1, 1, number, paper), True)
        self.assertIs(en.shows_enough(sky, 0, 1, 1, number, fewer), False)
        self.assertIs(en.shows_enough(sky, 0, 1, 1, number, {**fewer, (other, one): entry}), False)
        self.assertIs(en.shows_enough(sky, 0, 1, 1, number, {**paper, (other, one): entry}), False)
        near = ((0, 0, 0), (0, 1, 0))
        self.assertNotIn(near, paper)
        self.assertIs(en.shows_enough(sky, 0, 1, 1, number, {**paper, near: entry}), False)
        self.assertIs(en.shows_enough(sky, 0, 1, 1, number, {**fewer, near: entry}), False)
        self.assertIs(en.shows_enough(sky, 0, 1, 1, number, {**fewer, ((9, 9, 9), (9, 9, 9)): entry}), False)
        self.assertIs(en.shows_enough(sky, 0, 1, 1, number, {}), False)
        # Without the slack more pairs are far.
        self.assertIs(en.shows_enough(sky, 0, 1, 0, 99, paper), False)

    def test_other_entries_against_plain_searches(self):
        lists = [*all_parts(range(3)), [1, 0], [0, 0], [-1], [99]]
        for sky, missing, false in [(small_skies()[0], 0, 1), (small_skies()[1], 1, 0)]:
            number = en.enough_spots(sky, missing, false, 0) + 1
            paper = en.enough_paper(sky, missing, false, 0)
            # Pairs that stand early, so that a wrong entry is found soon.
            for pair in sorted(paper)[3:40:17]:
                sides = [(plain_links(sky, *pair), plain_sure(sky, pair[0])),
                         (plain_links(sky, *pair[::-1]), plain_sure(sky, pair[1]))]
                for side, lot in product((-1, 0, 1, 2), lists):
                    right = side in (0, 1) and lot in all_parts(sides[side][1])
                    right = right and plain_lack(sides[side][0], lot) > missing + false
                    told = en.shows_enough(sky, missing, false, 0, number, {**paper, pair: ("lot", side, lot)})
                    self.assertIs(told, right)
                every = covers(sky, *pair)
                seen = [len(plain_seen(sky, attitude)) for attitude in pair]
                for cover in product(lists, repeat=2):
                    right = (cover in every
                             and false + min(len(cover[0]) + len(cover[1]) + false, *seen) < number)
                    told = en.shows_enough(sky, missing, false, 0, number, {**paper, pair: ("cover", *cover)})
                    self.assertIs(told, right)

    def test_side_that_is_none(self):
        sky = Sky(5, [(0, 0, 5), (1, 0, 5)], (1, 0, 0, 1))
        number, paper = en.enough_spots(sky, 0, 0, 0), en.enough_paper(sky, 0, 0, 0)
        for pair, lots in [(((0, 0, 0), (3, 3, 0)), [True, False]), (((0, 3, 0), (1, 0, 0)), [False, True])]:
            told = [en.shows_enough(sky, 0, 0, 0, number, {**paper, pair: ("lot", side, [0, 1])})
                    for side in (0, 1, -1, 2, 3)]
            self.assertEqual(told, [*lots, False, False, False])

    def test_star_that_is_not_sure_is_in_no_lot(self):
        # At the first attitude the star 1 is seen beside the middle, so it is not sure; the second one sees no star.
        sky = Sky(7, [(0, 0, 5), (1, 0, 5)], (1, 1, 0, 5))
        pair = ((0, 0, 0), (3, 3, 0))
        for false, lot, right in [(0, [0], True), (0, [1], False), (0, [0, 1], False), (1, [0, 1], False)]:
            paper = {**en.enough_paper(sky, 0, false, 2), pair: ("lot", 0, lot)}
            self.assertIs(en.shows_enough(sky, 0, false, 2, 99, paper), right)

    def test_papers_are_new(self):
        sky = small_skies()[0]
        paper = en.enough_paper(sky, 0, 1, 0)
        lists = [part for entry in paper.values() for part in entry if isinstance(part, list)]
        self.assertEqual(len({id(part) for part in lists}), len(lists))
        for part in lists:
            part.append(99)
        self.assertIs(en.shows_enough(sky, 0, 1, 0, 99, en.enough_paper(sky, 0, 1, 0)), True)
        self.assertIs(en.shows_enough(sky, 0, 1, 0, 99, paper), False)

    def test_full_skies_of_the_greatest_side(self):
        sky = some_sky(2, 9, (3, 1, 2, 2), 20)
        number, paper = en.enough_spots(sky, 1, 2, 0), en.enough_paper(sky, 1, 2, 0)
        self.assertEqual(len(paper), 324 * 323 // 2)
        self.assertIs(en.shows_enough(sky, 1, 2, 0, number, paper), True)
        self.assertIs(en.shows_enough(sky, 1, 2, 0, number - 1, paper), False)
        self.assertEqual(en.most_shared(sky, *en.hardest_pair(sky, 1, 2, 0), 1, 2), number - 1)
        self.assertEqual(en.enough_spots(some_sky(1, 9, (4, 0, 0, 1), 20), 1, 2, 0), 0)


class WholeFileTest(unittest.TestCase):

    TWO = [(en.most_links, []), (en.least_cover, []), (en.check_cover, [([0], [1])]), (en.check_cover, [([9], [9])]),
           (en.most_shared, [0, 1]), (en.most_shared, [0, 0]), (en.shared_sighting, [0, 1]),
           (en.shared_sighting, [0, 0])]
    PAPER = {((0, 0, 0), (0, 0, 1)): ("lot", 0, [1, 0])}
    ALL = [(en.enough_spots, [0, 1, 0]), (en.hardest_pair, [0, 1, 0]), (en.enough_paper, [0, 1, 0]),
           (en.shows_enough, [0, 1, 0, 3, PAPER]), (en.shows_enough, [0, 1, 0, 3, en.enough_paper(EXAMPLE, 0, 1, 0)])]

    def test_errors_in_order(self):
        bad = [(told, (InvalidAttitude, {"attitude": told})) for told in no_attitudes(5)]
        for call, more in self.TWO:
            given = [(4, 4, 3), (0, 0, 0), *more]
            for told, expected in wrong_calls(given, [(0, bad), (1, bad[::-1])]):
                self.assertEqual(what_is_raised(call, EXAMPLE, *told), expected)
            self.assertIsNone(what_is_raised(call, EXAMPLE, *given))

    def test_nothing_is_changed(self):
        for call, more in self.TWO:
            self.assertFalse(changed_by(call, EXAMPLE, (0, 0, 0), (0, 0, 1), *more), call)
        for call, more in self.ALL:
            self.assertFalse(changed_by(call, EXAMPLE, *more), call)
        self.assertEqual(told_of_sky(EXAMPLE)[1], ((0, 0, 5), (1, 0, 3)))

    def test_examples(self):
        self.assertEqual((en.most_links(EXAMPLE, (0, 0, 0), (0, 0, 1)),
                          en.most_shared(EXAMPLE, (0, 0, 0), (0, 0, 1), 20, 1)), ([(0, 0)], 3))
        self.assertEqual(len(en.shared_sighting(EXAMPLE, (0, 0, 0), (0, 0, 1), 20, 1)), 3)
        self.assertEqual((en.enough_spots(EXAMPLE, 20, 0, 0), en.enough_spots(EXAMPLE, 20, 1, 0)), (2, 4))


if __name__ == "__main__":
    unittest.main()
