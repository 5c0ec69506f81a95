"""Tests of starward.matching: points [15] to [17], and the interface."""

import unittest
from copy import deepcopy
from itertools import product
from random import Random

from starward.matching import is_matching, lack, least_lot, matching, most, partners, turned_table
from tests.plain import all_matchings, all_parts, plain_lack

EXAMPLE = [[0, 1], [1], [1], [2, 3]]


def some_tables():
    """Return small tables, the same ones each time; the first ones are the edges."""
    tables = [[], [[]], [[], []], [[0]], [[0], [0]], [[0], [0], [0]], [[3]], EXAMPLE, [[0, 1, 2]],
              [[], [0], [], [0, 2]]]
    chance = Random(5)
    for rows, columns, _ in product((1, 2, 3, 4, 5), (1, 2, 3, 4), range(4)):
        density = chance.choice((0.2, 0.4, 0.6, 0.8))
        tables.append([[column for column in range(columns) if chance.random() < density] for _ in range(rows)])
    return tables


def had(told, rows, columns):
    """Return how many of these rows and of these columns a matching has."""
    return (len([1 for row, _ in told if row in rows]), len([1 for _, column in told if column in columns]))


class MostTest(unittest.TestCase):

    def test_most_rows_of_all_lots(self):
        for table in some_tables():
            matchings = all_matchings(table)
            for lot in all_parts(range(len(table))):
                best = max(had(told, lot, [])[0] for told in matchings)
                self.assertEqual(most(table, lot), best, (table, lot))
                self.assertEqual(best, len(lot) - max(plain_lack(table, part) for part in all_parts(lot)))

    def test_empty_table_and_lot(self):
        self.assertEqual((most([], []), most(EXAMPLE, []), most([[], []], [0, 1])), (0, 0, 0))

    def test_long_ways(self):
        # The last row gets a column only if all rows ahead of it give up theirs.
        many = 3000
        table = [[row, row + 1] for row in range(many)] + [[0]]
        self.assertEqual(most(table, list(range(many + 1))), many + 1)
        self.assertEqual(len(matching(table, list(range(many + 1)), [])), many + 1)
        self.assertEqual(least_lot([*table, [many]], list(range(many + 2))), list(range(many + 2)))

    def test_columns_of_any_size(self):
        table = [[10 ** 30], [5, 10 ** 30], [5, 10 ** 30]]
        self.assertEqual(most(table, [0, 1, 2]), 2)
        self.assertEqual(matching(table, [0], [5, 10 ** 30, 10 ** 31])[0], (0, 10 ** 30))
        self.assertEqual(partners(table, [0, 1]), [5, 10 ** 30])


class MatchingTest(unittest.TestCase):

    def check(self, table, rows, columns, matchings):
        told = matching(table, rows, columns)
        self.assertIn(told, matchings, (table, rows, columns))
        both = [had(other, rows, columns) for other in matchings]
        best = (max(first for first, _ in both), max(second for _, second in both))
        self.assertEqual(had(told, rows, columns), best, (table, rows, columns))
        # Point [17]: one matching has both at once.
        self.assertIn(best, both)

    def test_as_many_rows_and_columns_as_any(self):
        for table in some_tables():
            matchings = all_matchings(table)
            for rows, columns in product(all_parts(range(len(table)))[::3], all_parts(range(5))[::2]):
                self.check(table, rows, columns, matchings)

    def test_columns_that_are_no_partners(self):
        for table in some_tables()[:10]:
            matchings = all_matchings(table)
            for columns in ([7], [0, 7, 99], [10 ** 30]):
                self.check(table, list(range(len(table))), columns, matchings)

    def test_column_that_needs_a_column_to_be_given_up(self):
        for table, rows, columns in [([[0, 1]], [0], [1]), ([[0, 1], [0]], [0], [0, 1]), ([[0, 1, 2]], [], [2]),
                                     ([[0, 1], [1, 2]], [0, 1], [2]), ([[0], [0, 1], [1, 2]], [0], [2])]:
            self.check(table, rows, columns, all_matchings(table))

    def test_nothing_to_match(self):
        for table, rows, columns in [([], [], []), ([], [], [0, 1]), ([[]], [0], [0])]:
            self.assertEqual(matching(table, rows, columns), [])

    def test_is_matching(self):
        for table in some_tables()[:60]:
            matchings = all_matchings(table)
            pairs = list(product(range(-1, 4), repeat=2))
            candidates = [list(told) for many in range(3) for told in product(pairs, repeat=many)]
            for told in [*candidates[:30], *Random(3).sample(candidates, 60), *matchings[:40]]:
                self.assertIs(is_matching(table, told), told in matchings, (table, told))

    def test_no_matchings(self):
        self.assertIs(is_matching(EXAMPLE, [(0, 0), (1, 1), (3, 3)]), True)
        for told in [[(1, 1), (0, 0)], [(0, 0), (0, 1)], [(0, 1), (1, 1)], [(0, 0), (0, 0)], [(0, 2)], [(4, 0)],
                     [(-1, 2)], [(-1, 3)], [(0, -1)], [(3, 3), (0, 0)], [(0, 0), (1, 1), (2, 1)], [(9, 9)]]:
            self.assertIs(is_matching(EXAMPLE, told), False, told)
        self.assertIs(is_matching(EXAMPLE, []), True)
        self.assertIs(is_matching([], []), True)
        self.assertIs(is_matching([], [(0, 0)]), False)


class LotTest(unittest.TestCase):

    def test_partners_and_lack(self):
        for table in some_tables():
            for lot in all_parts(range(len(table))):
                told = partners(table, lot)
                self.assertEqual(told, sorted({column for row in lot for column in table[row]}))
                self.assertEqual(lack(table, lot), len(lot) - len(told))
        self.assertEqual((partners([], []), lack([], []), partners(EXAMPLE, []), lack(EXAMPLE, [])), ([], 0, [], 0))
        self.assertEqual([lack(EXAMPLE, lot) for lot in ([3], [1], [1, 2], [0, 1, 2], [0])], [-1, 0, 1, 1, -1])

    def test_least_lot(self):
        for table in some_tables():
            for lot in all_parts(range(len(table))):
                greatest = max(plain_lack(table, part) for part in all_parts(lot))
                lacking = [part for part in all_parts(lot) if plain_lack(table, part) == greatest]
                least = [part for part in lacking if all(set(part) <= set(other) for other in lacking)]
                self.assertEqual([least_lot(table, lot)], least, (table, lot))
                self.assertEqual(least_lot(table, lot) == [], most(table, lot) == len(lot))

    def test_lots_with_no_lack(self):
        for table, lot in [([], []), (EXAMPLE, []), (EXAMPLE, [0, 1, 3]), ([[0]], [0]), ([[0, 1], [0, 1]], [0, 1])]:
            self.assertEqual(least_lot(table, lot), [])

    def test_turned_table(self):
        for table in some_tables():
            for many in (4, 5, 9):
                expected = [[row for row, columns in enumerate(table) if column in columns] for column in range(many)]
                self.assertEqual(turned_table(table, many), expected)
        self.assertEqual((turned_table([], 0), turned_table([[], []], 0), turned_table([], 2)), ([], [], [[], []]))


class WholeFileTest(unittest.TestCase):

    def test_examples(self):
        self.assertEqual((most(EXAMPLE, [0, 1, 2]), least_lot(EXAMPLE, [0, 1, 2]), lack(EXAMPLE, [1, 2]),
                          least_lot(EXAMPLE, [0, 3])), (2, [1, 2], 1, []))
        self.assertEqual(turned_table(EXAMPLE, 4), [[0], [0, 1, 2], [3], [3]])

    def test_nothing_is_changed(self):
        for call, *given in [(most, [0, 1, 2]), (matching, [0, 1, 2], [0, 1, 3]), (is_matching, [(1, 1), (0, 0)]),
                             (partners, [0, 3]), (lack, [1, 2]), (least_lot, [0, 1, 2]), (turned_table, 4)]:
            passed = (deepcopy(EXAMPLE), deepcopy(given))
            call(passed[0], *passed[1])
            self.assertEqual(passed, (EXAMPLE, given), call)

    def test_lists_are_new(self):
        table = deepcopy(EXAMPLE)
        rows = [0]
        for told in [partners(table, rows), matching(table, rows, []), least_lot([[]], rows), *turned_table(table, 4)]:
            told.append(99)
        turned = turned_table([[], []], 3)
        turned[0].append(5)
        self.assertEqual((table, rows, turned), (EXAMPLE, [0], [[5], [], []]))


if __name__ == "__main__":
    unittest.main()
