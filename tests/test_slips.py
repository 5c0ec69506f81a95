"""Tests of starward.slips: points [60], [62], [63], [67], [68] and [76], and the interface; and of starward.grids."""

import unittest
from functools import cache
from itertools import product
from random import Random

from starward import slips as sl
from starward.attitudes import attitudes
from starward.confuse import unlikeness
from starward.errors import InvalidCommand
from starward.grids import Grid
from starward.plans import finding_row, untold
from starward.sky import Sky
from tests.plain import (CallsTest, changed_by, no_attitudes, no_commands, plain_far, plain_led, plain_unlikeness,
                         some_row, some_sky)

EXAMPLE = Sky(5, [(0, 0, 9), (1, 0, 4)], (1, 0, 0, 1))
HERE = ((3, 3, 0), (3, 3, 0))
ROWS = [[], [(0, 0, 0)], [(1, 0, 0)], [(1, 0, 1)], [(0, 2, 3), (1, 1, 0)], [(-3, 1, 2), (0, 0, 0), (1, 2, 1)]]


@cache
def small_skies():
    """Return skies of the side 4 in which few pairs, or many, are confusable."""
    return [Sky(4, [(0, 0, 9), (1, 0, 4), (3, 2, 4)], (1, 0, 0, 1)), some_sky(3, 4, (1, 0, 0, 1), 20),
            some_sky(6, 4, (1, 0, 0, 3), 9), Sky(4, [], (0, 0, 0, 1)), some_sky(2, 4, (0, 0, 1, 2), 12),
            some_sky(5, 4, (1, 0, 1, 2), 14)]


@cache
def unlike(sky, one, other):
    """Return the unlikeness; it is tested against a plain search below."""
    return unlikeness(sky, one, other)


@cache
def plain_confusable(sky, bound):
    """Return all pairs of attitudes that are confusable, both orders of each."""
    return frozenset(pair for pair in product(attitudes(sky), repeat=2) if unlike(sky, *pair) <= bound)


@cache
def kept_led(sky, attitude, command, slip):
    """Return the attitudes to which a command with slips leads."""
    return plain_led(sky, attitude, command, slip)


def plain_ends(sky, pairs, row, slip, bound):
    """Return all pairs with which pair courses along the row end that begin with some of the pairs."""
    for command in row:
        led = {(first, second) for one, other in pairs for first in kept_led(sky, one, command, slip)
               for second in kept_led(sky, other, command, slip)}
        pairs = led & plain_confusable(sky, bound)
    return set(pairs)


def is_pair_course(sky, row, slip, bound, pairs):
    """Return True if the list is a pair course along the row."""
    if len(pairs) != len(row) + 1 or any(unlike(sky, *pair) > bound for pair in pairs):
        return False
    return all(after[part] in kept_led(sky, before[part], command, slip)
               for before, command, after in zip(pairs, row, pairs[1:]) for part in (0, 1))


def cases():
    """Yield skies with rows, slips and bounds for plain searches."""
    for sky in small_skies():
        for row, slip in product(ROWS, (0, 1)):
            for missing, false in [(0, 0), (1, 0)]:
                if slip == 0 or len(plain_confusable(sky, missing + false)) < 1500:
                    yield (sky, row, slip, missing, false)
    yield (small_skies()[0], ROWS[4], 2, 0, 0)
    yield (small_skies()[1], ROWS[5], 3, 0, 0)


class GridTest(unittest.TestCase):

    def test_against_points(self):
        chance = Random(1)
        for side, axes in [(4, 1), (4, 2), (9, 2), (4, 3), (5, 3), (9, 3)]:
            grid, points = Grid(side, axes), list(product(range(side), repeat=axes))
            numbers = {point: 1 << number for number, point in enumerate(points)}
            for _ in range(30):
                some = chance.sample(points, chance.randrange(min(len(points), 40)))
                bits = sum(numbers[point] for point in some)
                axis, steps = chance.randrange(axes), chance.randrange(-9, 10)

                def at(many):
                    return {point[:axis] + ((point[axis] + many) % side,) + point[axis + 1:] for point in some}

                self.assertEqual(grid.moved(bits, axis, steps), sum(numbers[point] for point in at(steps)))
                spread = set().union(*[at(many) for many in range(-(steps % 4), steps % 4 + 1)])
                self.assertEqual(grid.spread(bits, axis, steps % 4), sum(numbers[point] for point in spread))
            self.assertEqual(grid.full, sum(numbers.values()))


class PairsTest(unittest.TestCase):

    def test_unlikeness_against_all_lots(self):
        for sky in small_skies():
            for pair in list(product(attitudes(sky), repeat=2))[::301]:
                self.assertEqual(unlike(sky, *pair), plain_unlikeness(sky, *pair))

    def test_pairs_behind(self):
        found = set()
        for sky, row, slip, missing, false in cases():
            ends = plain_ends(sky, plain_confusable(sky, missing + false), row, slip, missing + false)
            expected = sorted(pair for pair in ends if pair[0] <= pair[1])
            self.assertEqual(sl.pairs_behind(sky, row, slip, missing, false), expected)
            self.assertEqual(sl.pairs_behind(sky, row, slip, 0, missing + false), expected)
            found.add(len(expected))
        self.assertGreater(len(found), 12)

    def test_slips_that_go_around_the_sky(self):
        sky = Sky(4, [(0, 0, 9)], (0, 0, 0, 1))
        dark = [attitude for attitude in attitudes(sky) if attitude[:2] != (0, 0)]
        told = sl.pairs_behind(sky, [(1, 2, 1)], 3, 0, 0)
        self.assertEqual(len([pair for pair in told if pair[0] in dark]), len(dark) * (len(dark) + 1) // 2)

    def test_fooling(self):
        found = set()
        for sky, row, slip, missing, false in cases():
            ends = plain_ends(sky, plain_confusable(sky, missing + false), row, slip, missing + false)
            for slack in (0, 1, 9):
                told = sl.fooling(sky, row, slip, slack, missing, false)
                some = any(plain_far(sky, *pair, slack) for pair in ends)
                self.assertIs(told is not None, some)
                found.add(some)
                if told is not None:
                    self.assertTrue(is_pair_course(sky, row, slip, missing + false, told))
                    self.assertTrue(plain_far(sky, *told[-1], slack))
                    self.assertIs(sl.check_fooling(sky, row, slip, slack, missing, false, told), True)
        self.assertEqual(found, {True, False})

    def test_without_slips_as_in_plans(self):
        # Point [67]: without slips this is point [66].
        for sky in [*small_skies(), EXAMPLE]:
            for row, slack in product(ROWS, (0, 1)):
                told = sl.fooling(sky, row, 0, slack, 0, 1)
                self.assertIs(told is None, untold(sky, row, slack, 0, 1) == [])
        sky = small_skies()[0]
        row = finding_row(sky, 0, [(1, 0, 0), (0, 1, 0), (0, 0, 1)], 0, 0)
        if row is not None:
            self.assertIsNone(sl.fooling(sky, row, 0, 0, 0, 0))

    def test_check_fooling(self):
        found = set()
        chance = Random(3)
        for sky, row, slip, missing, false in cases():
            told = sl.fooling(sky, row, slip, 0, missing, false)
            for other in [[], [HERE], told or [HERE] * (len(row) + 1)]:
                for _ in range(4):
                    pairs = list(other)
                    if pairs:
                        place = chance.randrange(len(pairs))
                        pairs[place] = chance.choice([pairs[place], (pairs[place][1], pairs[place][0]),
                                                      (pairs[place][0], chance.choice(attitudes(sky))), HERE])
                    right = (bool(pairs) and is_pair_course(sky, row, slip, missing + false, pairs)
                             and plain_far(sky, *pairs[-1], 1))
                    self.assertIs(sl.check_fooling(sky, row, slip, 1, missing, false, pairs), right)
                    self.assertIs(sl.check_fooling(sky, [*row, (0, 0, 0)], slip, 1, missing, false, pairs), False)
                    found.add(right)
        self.assertEqual(found, {True, False})

    def test_pairs_that_are_no_attitudes(self):
        row, far = [(0, 0, 0)], ((3, 3, 0), (3, 2, 0))
        self.assertIs(sl.check_fooling(EXAMPLE, row, 1, 0, 0, 0, [HERE, far]), True)
        self.assertIs(sl.check_fooling(EXAMPLE, row, 0, 0, 0, 0, [HERE, far]), False)
        self.assertIs(sl.check_fooling(EXAMPLE, row, 1, 1, 0, 0, [HERE, far]), False)
        self.assertIs(sl.check_fooling(EXAMPLE, row, 1, 0, 0, 0, [HERE, HERE]), False)
        for bad in [*no_attitudes(5), (3, 7, 0), (-2, 3, 0)]:
            for pairs in ([(bad, (3, 3, 0)), far], [((3, 3, 0), bad), far], [HERE, (bad, (3, 2, 0))],
                          [HERE, ((3, 3, 0), bad)]):
                self.assertIs(sl.check_fooling(EXAMPLE, row, 3, 0, 20, 20, pairs), False)


class RoundsTest(unittest.TestCase):

    def plain_rounds(self, sky, row, slip, slack, bound):
        """Return the least number of rounds behind which no pair is far, or None if there is none."""
        pairs, number = set(plain_confusable(sky, bound)), 0
        while True:
            if not any(plain_far(sky, *pair, slack) for pair in pairs):
                return number
            behind = plain_ends(sky, pairs, row, slip, bound)
            self.assertTrue(behind <= pairs)
            if behind == pairs:
                return None
            pairs, number = behind, number + 1

    def check_ring_and_way(self, sky, row, slip, slack, bound, ring, way):
        """Check by their words that two lists are a ring and a way."""
        many = len(row) or 1
        self.assertEqual(((len(ring) - 1) % many, (len(way) - 1) % many), (0, 0))
        turns = [(len(pairs) - 1) // many if row else 0 for pairs in (ring, way)]
        self.assertTrue(turns[0] > 0 or not row)
        self.assertTrue(is_pair_course(sky, row * turns[0], slip, bound, ring))
        self.assertTrue(is_pair_course(sky, row * turns[1], slip, bound, way))
        self.assertEqual((ring[0], ring[0]), (ring[-1], way[0]))
        self.assertTrue(plain_far(sky, *way[-1], slack))

    def test_rounds(self):
        found = set()
        for sky, row, slip, missing, false in cases():
            for slack in (0, 1, 9):
                told = sl.rounds(sky, row, slip, slack, missing, false)
                number = self.plain_rounds(sky, row, slip, slack, missing + false)
                found.add(number)
                if number is not None:
                    self.assertEqual(told, ("found", number))
                    continue
                word, ring, way = told
                self.assertEqual(word, "never")
                self.check_ring_and_way(sky, row, slip, slack, missing + false, ring, way)
                self.assertIs(sl.check_ring(sky, row, slip, slack, missing, false, ring, way), True)
        self.assertTrue({None, 0, 1, 2} <= found)

    def test_row_without_commands(self):
        for sky in small_skies():
            told = sl.rounds(sky, [], 3, 0, 0, 0)
            if told[0] == "never":
                self.assertEqual((len(told[1]), told[1]), (1, told[2]))
            else:
                self.assertEqual(told, ("found", 0))
        far = ((3, 3, 0), (3, 2, 0))
        for ring, way, right in [([far], [far], True), ([HERE], [far], False), ([HERE], [HERE], False),
                                 ([far, far], [far], False), ([far], [far, far], False), ([], [], False),
                                 ([far], [], False), ([], [far], False), ([far], [far[::-1]], False)]:
            self.assertIs(sl.check_ring(EXAMPLE, [], 0, 0, 0, 0, ring, way), right)
        self.assertIs(sl.check_ring(EXAMPLE, [], 0, 1, 0, 0, [far], [far]), False)

    def test_rings_and_ways_that_are_none(self):
        row, far, near = [(0, 0, 0)], ((3, 3, 0), (3, 2, 0)), ((3, 2, 0), (3, 2, 0))
        for ring, way, right in [([HERE, HERE], [HERE, far], True), ([far, far], [far], True),
                                 ([HERE, near, HERE], [HERE, near, far], True), ([HERE], [HERE, far], False),
                                 ([HERE, near], [HERE, far], False), ([HERE, near], [near, far], False),
                                 ([HERE, HERE], [HERE, HERE], False), ([HERE, HERE], [far], False),
                                 ([HERE, HERE], [near, far], False), ([HERE, HERE], [], False),
                                 ([], [HERE, far], False), ([far, far], [far[::-1]], False),
                                 ([HERE, ((2, 2, 0), (2, 2, 0)), ((0, 2, 0), (2, 2, 0)), HERE], [HERE, far], False)]:
            self.assertIs(sl.check_ring(EXAMPLE, row, 1, 0, 0, 0, ring, way), right)
        two = [(1, 0, 0), (-1, 0, 0)]
        self.assertIs(sl.check_ring(EXAMPLE, two, 1, 0, 0, 0, [HERE, HERE, HERE], [HERE, far, far]), True)
        self.assertIs(sl.check_ring(EXAMPLE, two, 1, 0, 0, 0, [HERE, HERE], [HERE, far, far]), False)
        self.assertIs(sl.check_ring(EXAMPLE, two, 1, 0, 0, 0, [HERE, HERE, HERE], [HERE, far]), False)
        self.assertIs(sl.check_ring(EXAMPLE, row, 1, 1, 0, 0, [HERE, HERE], [HERE, far]), False)
        self.assertIs(sl.check_ring(EXAMPLE, row, 0, 0, 0, 0, [HERE, HERE], [HERE, far]), False)
        for bad in [*no_attitudes(5), (3, 8, 0), (-2, 3, 0)]:
            for pair in [(bad, (3, 3, 0)), ((3, 3, 0), bad)]:
                self.assertIs(sl.check_ring(EXAMPLE, row, 3, 0, 20, 20, [HERE, pair, HERE], [HERE, far]), False)
                self.assertIs(sl.check_ring(EXAMPLE, row, 3, 0, 20, 20, [HERE, HERE], [HERE, pair]), False)

    def test_pair_that_is_not_confusable(self):
        bright = ((0, 0, 0), (0, 0, 1))
        for false, right in [(1, True), (0, False)]:
            told = sl.check_ring(EXAMPLE, [(0, 0, 0)], 0, 0, 0, false, [bright, bright], [bright])
            self.assertIs(told, right)

    def test_long_rows_of_the_greatest_side(self):
        for seed, (camera, many, slip) in enumerate([((1, 0, 0, 1), 20, 3), ((1, 0, 0, 9), 20, 1),
                                                     ((4, 0, 0, 1), 20, 1), ((2, 1, 1, 1), 20, 0)]):
            sky, row = some_sky(seed, 9, camera, many), some_row(seed, 9, 2000)
            told = sl.rounds(sky, row[:700], slip, 0, 0, 0)
            if told[0] == "never":
                self.assertIs(sl.check_ring(sky, row[:700], slip, 0, 0, 0, told[1], told[2]), True)
            fooled = sl.fooling(sky, row, slip, 0, 0, 0)
            ends = sl.pairs_behind(sky, row, slip, 0, 0)
            self.assertIs(fooled is None, all(not plain_far(sky, *pair, 0) for pair in ends))
            if fooled is not None:
                self.assertIs(sl.check_fooling(sky, row, slip, 0, 0, 0, fooled), True)
                self.assertIn(tuple(sorted(fooled[-1])), ends)


class WholeFileTest(CallsTest, unittest.TestCase):

    SKY = EXAMPLE
    ROWS = [([(4, -4, 3), told, (9, 9, 9)], (InvalidCommand, {"command": told})) for told in no_commands(5)]
    FAR = ((3, 3, 0), (3, 2, 0))
    CALLS = [(sl.pairs_behind, [[(1, 0, 0)], 1, 0, 1], [(0, ROWS)]),
             (sl.fooling, [[(1, 0, 0)], 1, 0, 0, 1], [(0, ROWS)]),
             (sl.check_fooling, [[(0, 0, 0)], 1, 0, 0, 1, [HERE, FAR]], [(0, ROWS)]),
             (sl.check_fooling, [[(0, 0, 0)], 1, 0, 0, 1, [((9, 9, 9), (0, 0, 0))]], [(0, ROWS)]),
             (sl.rounds, [[(1, 0, 0)], 1, 0, 0, 1], [(0, ROWS)]), (sl.rounds, [[], 1, 0, 0, 1], [(0, ROWS)]),
             (sl.check_ring, [[(0, 0, 0)], 1, 0, 0, 1, [HERE, HERE], [HERE, FAR]], [(0, ROWS)]),
             (sl.check_ring, [[(0, 0, 0)], 1, 0, 0, 1, [], []], [(0, ROWS)])]

    def test_answers_are_new(self):
        for given in ([[], 1, 0, 0, 0], [[(0, 0, 0)], 1, 0, 0, 0]):
            word, ring, way = sl.rounds(EXAMPLE, *given)
            self.assertEqual(word, "never")
            self.assertIsNot(ring, way)
            was = (list(ring), list(way))
            ring.clear()
            self.assertEqual(way, was[1])
            way.clear()
            self.assertEqual(sl.rounds(EXAMPLE, *given)[1:], was)
        was = sl.pairs_behind(EXAMPLE, [], 0, 0, 0)
        sl.pairs_behind(EXAMPLE, [], 0, 0, 0).clear()
        self.assertEqual(sl.pairs_behind(EXAMPLE, [], 0, 0, 0), was)
        self.assertFalse(changed_by(sl.pairs_behind, EXAMPLE, [], 0, 0, 0))

    def test_examples(self):
        self.assertEqual((sl.rounds(EXAMPLE, [(0, 0, 0)], 1, 0, 0, 0)[0],
                          sl.check_ring(EXAMPLE, [(0, 0, 0)], 1, 0, 0, 0, [HERE, HERE],
                                        [HERE, ((3, 3, 0), (3, 2, 0))])), ("never", True))


if __name__ == "__main__":
    unittest.main()
