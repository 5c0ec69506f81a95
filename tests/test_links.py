"""Tests of what lies below the files of the interface: starward.bits, starward.links and starward.pairs."""

import unittest
from itertools import product
from random import Random

from starward import bits
from starward.attitudes import attitudes
from starward.confuse import lacking_lot, linked
from starward.links import Links
from starward.pairs import both_ways, count_far, far_behind, far_numbers
from starward.sky import Sky
from tests.plain import (all_cameras, all_matchings, all_parts, far_pairs, plain_far, plain_lack, plain_seen,
                         plain_sure, some_sky)


def some_tables():
    """Return small tables, the same ones each time."""
    chance = Random(2)
    tables = [[], [[]], [[0], [0], [0]], [[0, 1], [1, 2], [2, 3], [3]], [[0], [0, 1], [1, 2], [2]]]
    for _ in range(300):
        columns = range(chance.randrange(1, 6))
        tables.append([[column for column in columns if chance.random() < 0.4] for _ in range(chance.randrange(7))])
    return tables


class BitsTest(unittest.TestCase):

    def test_against_all_matchings_and_lots(self):
        for table in some_tables():
            masks = [sum(1 << column for column in row) for row in table]
            rows = list(range(len(table)))
            most = max(len(told) for told in all_matchings(table))
            self.assertEqual(bits.most_held(masks), most)
            parts = all_parts(rows)
            lack = max(plain_lack(table, part) for part in parts)
            least = set.intersection(*[set(part) for part in parts if plain_lack(table, part) == lack])
            self.assertEqual(bits.least_part(masks), (lack, sorted(least)))
            self.assertEqual(lack, len(rows) - most)

    def test_bits_and_unions(self):
        for mask in [0, 1, 2, 5, 1 << 19, (1 << 20) - 1]:
            self.assertEqual(bits.bits_of(mask), [place for place in range(20) if mask >> place & 1])
        self.assertEqual(bits.union_of([1, 4, 5]), 5)
        self.assertEqual(bits.union_of([]), 0)


class LinksTest(unittest.TestCase):

    def test_against_pairs_of_attitudes(self):
        chance = Random(3)
        for side in range(4, 10):
            for camera in all_cameras(side)[::17]:
                sky = some_sky(side, side, camera, chance.choice([0, 3, 9, 20]))
                links, every = Links(sky), attitudes(sky)
                for _ in range(6):
                    place, other = chance.randrange(side * side), chance.randrange(4 * side * side)
                    pair = (every[4 * place], every[other])
                    self.assertEqual(list(links.shown[place]), plain_seen(sky, pair[0]))
                    self.assertEqual(links.sure[place], plain_sure(sky, pair[0]))
                    table = links.table(place, other, list(links.shown[place]))
                    told = [(star, mate) for star, mask in zip(links.shown[place], table)
                            for mate in bits.bits_of(mask)]
                    self.assertEqual(told, linked(sky, *pair))
                    lot = lacking_lot(sky, *pair)
                    self.assertEqual(links.lot_row(place, links.sure[place])[other][1], lot)
                    (here, there), (back, hither) = both_ways(place, other)
                    self.assertEqual(links.lacks(here)[there], links.lot_row(place, links.sure[place])[other][0])
                    self.assertEqual(links.lacks_back(place)[other], links.lacks(back)[hither])
                    self.assertEqual(links.unlikeness(place)[other],
                                     max(links.lacks(here)[there], links.lacks(back)[hither]))
                    for bound in range(4):
                        self.assertIs(links.are_alike_enough(place, other, bound),
                                      links.unlikeness(place)[other] <= bound)


class FarTest(unittest.TestCase):

    def test_far_numbers(self):
        for side, slack in product(range(4, 10), range(10)):
            every = attitudes(Sky(side, [], (0, 0, 0, 1)))
            for place in range(0, side * side, 5):
                far = [number for number, other in enumerate(every)
                       if plain_far(Sky(side, [], (0, 0, 0, 1)), every[4 * place], other, slack)]
                self.assertEqual(far_numbers(side, place, slack), far)
                self.assertEqual(far_behind(side, place, slack), [number for number in far if number > 4 * place])
            if side < 6:
                self.assertEqual(count_far(side, slack), len(far_pairs(Sky(side, [], (0, 0, 0, 1)), slack)))


if __name__ == "__main__":
    unittest.main()
