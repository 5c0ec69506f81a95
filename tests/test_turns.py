"""Tests of starward.turns: points [60] to [62] and [76], and the interface."""

import unittest
from itertools import product

from starward import turns as tu
from starward.attitudes import attitudes, commanded, taken_back
from starward.errors import InvalidAttitude, InvalidCommand
from starward.sky import Sky
from tests.plain import (CallsTest, changed_by, no_attitudes, no_commands, plain_course, plain_led, some_row)

SKIES = {side: Sky(side, [], (1, 0, 0, 1)) for side in (4, 5, 9)}
EXAMPLE = Sky(5, [(0, 0, 9), (1, 0, 4)], (1, 0, 0, 1))
CHOICES = [[(1, 0, 0), (0, 1, 0), (0, 0, 1)], [(0, 0, 0)], [(1, 0, 0)], [(2, 0, 0), (0, 2, 2)], [(1, 0, 1)],
           [(0, 0, 0), (3, -1, 0), (0, 0, 2)], [(1, 0, 0), (-3, 0, 0), (0, 1, 3)],
           [(1, 2, 0), (2, 1, 0), (1, 1, 1), (0, 0, 3), (-1, 0, 0), (0, -1, 0), (3, 3, 3), (0, 0, 0)]]


def plain_reached(sky, attitude, commands):
    """Return all attitudes that rows of the commands lead to, by adding until no more come in."""
    found = {attitude}
    while True:
        led = {there for each in found for command in commands for there in plain_led(sky, each, command)}
        if led <= found:
            return sorted(found)
        found |= led


class AsOneTest(unittest.TestCase):

    def test_does_what_the_row_does(self):
        for side, many in product(SKIES, range(6)):
            sky, row = SKIES[side], some_row(many, side, many)
            told = tu.as_one(sky, row)
            self.assertTrue(0 <= told[0] < side and 0 <= told[1] < side and 0 <= told[2] <= 3)
            for attitude in attitudes(sky):
                self.assertEqual(plain_led(sky, attitude, told), [plain_course(sky, attitude, row)[-1]])

    def test_row_without_commands(self):
        self.assertEqual(tu.as_one(EXAMPLE, []), (0, 0, 0))

    def test_row_and_what_takes_it_back(self):
        row = some_row(3, 5, 40)
        back = [taken_back(EXAMPLE, command) for command in reversed(row)]
        self.assertEqual(tu.as_one(EXAMPLE, [*row, *back]), (0, 0, 0))

    def test_row_of_2000_commands(self):
        row = some_row(4, 9, 2000)
        self.assertEqual(tu.as_one(SKIES[9], row), plain_course(SKIES[9], (0, 0, 0), row)[-1])
        self.assertEqual(tu.as_one(SKIES[9], [(8, -8, 0)] * 2000), (2000 * 8 % 9, -2000 * 8 % 9, 0))


    def test_command_that_leaves_one_as_it_is_leaves_all(self):
        sky = SKIES[4]
        for command in product(range(-3, 4), range(-3, 4), range(4)):
            stays = [plain_led(sky, attitude, command) == [attitude] for attitude in attitudes(sky)[::5]]
            self.assertEqual(len(set(stays)), 1)
            self.assertIs(tu.as_one(sky, [command]) == (0, 0, 0), stays[0])
            self.assertEqual(tu.reached(sky, (1, 2, 3), [command]) == [(1, 2, 3)], stays[0])


class ReachedTest(unittest.TestCase):

    def test_against_adding_until_no_more_come_in(self):
        for side, commands in product((4, 5), CHOICES):
            for attitude in attitudes(SKIES[side])[::9]:
                self.assertEqual(tu.reached(SKIES[side], attitude, commands),
                                 plain_reached(SKIES[side], attitude, commands))

    def test_lots_are_equally_great(self):
        for side, commands in product((4, 5), CHOICES):
            sky = SKIES[side]
            lots = {attitude: tu.reached(sky, attitude, commands) for attitude in attitudes(sky)}
            self.assertEqual(len({len(lot) for lot in lots.values()}), 1)
            # Each is reached from each of its own.
            for lot in lots.values():
                self.assertTrue(all(lots[attitude] == lot for attitude in lot))

    def test_all_attitudes_are_one_lot(self):
        for sky in SKIES.values():
            self.assertEqual(tu.reached(sky, (1, 2, 3), CHOICES[0]), attitudes(sky))

    def test_command_that_leaves_all_as_it_is(self):
        self.assertEqual(tu.reached(EXAMPLE, (1, 2, 3), [(0, 0, 0)]), [(1, 2, 3)])


class RowToTest(unittest.TestCase):

    def test_against_all_rows_up_to_a_length(self):
        sky = SKIES[4]
        for commands in CHOICES[:-1]:
            first = {}
            for length in range(5):
                for row in product(commands, repeat=length):
                    # Products come in the order of the places of the commands in the list.
                    first.setdefault(plain_course(sky, (3, 1, 2), row)[-1], list(row))
            for goal in attitudes(sky):
                told = tu.row_to(sky, (3, 1, 2), goal, commands)
                if goal in first:
                    self.assertEqual(told, first[goal])
                elif told is not None:
                    self.assertGreater(len(told), 4)

    def test_leads_to_the_goal_if_it_is_reached(self):
        for side, commands in product((4, 5), CHOICES):
            sky = SKIES[side]
            lot = plain_reached(sky, (1, 0, 1), commands)
            for goal in attitudes(sky):
                row = tu.row_to(sky, (1, 0, 1), goal, commands)
                if goal not in lot:
                    self.assertIsNone(row)
                    continue
                self.assertEqual(plain_course(sky, (1, 0, 1), row)[-1], goal)
                self.assertTrue(all(command in commands for command in row))

    def test_order_of_the_list_counts(self):
        self.assertEqual(tu.row_to(EXAMPLE, (0, 0, 0), (1, 1, 0), [(1, 0, 0), (0, 1, 0)]), [(1, 0, 0), (0, 1, 0)])
        self.assertEqual(tu.row_to(EXAMPLE, (0, 0, 0), (1, 1, 0), [(0, 1, 0), (1, 0, 0)]), [(0, 1, 0), (1, 0, 0)])
        # Two commands of a side of 5 that do the same.
        self.assertEqual(tu.row_to(EXAMPLE, (0, 0, 0), (2, 0, 0), [(-4, 0, 0), (1, 0, 0)]), [(-4, 0, 0)] * 2)
        self.assertEqual(tu.row_to(EXAMPLE, (0, 0, 0), (2, 0, 0), [(1, 0, 0), (-4, 0, 0)]), [(1, 0, 0)] * 2)

    def test_goal_that_is_the_attitude_itself(self):
        for commands in CHOICES:
            self.assertEqual(tu.row_to(EXAMPLE, (1, 2, 3), (1, 2, 3), commands), [])

    def test_goal_that_is_not_reached(self):
        self.assertIsNone(tu.row_to(EXAMPLE, (1, 2, 3), (1, 2, 0), [(1, 0, 0), (0, 1, 0)]))
        self.assertIsNone(tu.row_to(EXAMPLE, (1, 2, 3), (0, 2, 3), [(0, 0, 0)]))

    def test_greatest_side(self):
        sky = SKIES[9]
        rows = [tu.row_to(sky, (0, 0, 0), goal, [(1, 0, 0), (0, 1, 0), (0, 0, 1)]) for goal in attitudes(sky)[::5]]
        self.assertEqual([plain_course(sky, (0, 0, 0), row)[-1] for row in rows], attitudes(sky)[::5])
        self.assertEqual(len(tu.row_to(sky, (0, 0, 0), (8, 0, 0), [(1, 0, 0)])), 8)


class BehindTest(unittest.TestCase):

    def test_against_all_slips(self):
        for side, slip in product(SKIES, range(4)):
            sky = SKIES[side]
            for command in some_row(side, side, 4):
                for lot in ([], [(0, 0, 0)], [(0, 1, 2), (3, 3, 1)], [(3, 3, 1), (0, 1, 2), (3, 3, 1)],
                            attitudes(sky)[::10]):
                    expected = {there for each in lot for there in plain_led(sky, each, command, slip)}
                    self.assertEqual(tu.behind(sky, lot, command, slip), sorted(expected))

    def test_without_slips_it_is_the_command(self):
        for attitude in attitudes(EXAMPLE):
            self.assertEqual(tu.behind(EXAMPLE, [attitude], (3, -4, 3), 0), [commanded(EXAMPLE, attitude, (3, -4, 3))])

    def test_empty_lot_and_all(self):
        for slip in range(4):
            self.assertEqual(tu.behind(EXAMPLE, [], (1, 1, 1), slip), [])
            self.assertEqual(tu.behind(EXAMPLE, attitudes(EXAMPLE), (1, 1, 1), slip), attitudes(EXAMPLE))

    def test_slips_around_the_sky(self):
        self.assertEqual(len(tu.behind(SKIES[4], [(0, 0, 0)], (1, 0, 1), 3)), 16)
        self.assertEqual(len(tu.behind(SKIES[9], [(0, 0, 0)], (1, 0, 1), 3)), 49)


class IsCourseTest(unittest.TestCase):

    def test_against_all_attitudes_next(self):
        for slip in range(3):
            for command in [(1, 0, 0), (0, 0, 1), (-3, 4, 2), (0, 0, 0)]:
                for one, other in product(attitudes(EXAMPLE)[::23], attitudes(EXAMPLE)):
                    self.assertIs(tu.is_course(EXAMPLE, [one, other], [command], slip),
                                  other in plain_led(EXAMPLE, one, command, slip))

    def test_each_step_counts(self):
        row = some_row(1, 5, 6)
        course = plain_course(EXAMPLE, (4, 0, 2), row)
        self.assertIs(tu.is_course(EXAMPLE, course, row, 0), True)
        for place in range(len(course)):
            x, y, quarter = course[place]
            slipped = list(course)
            slipped[place] = ((x + 1) % 5, (y - 1) % 5, quarter)
            self.assertEqual([tu.is_course(EXAMPLE, slipped, row, slip) for slip in range(4)],
                             [False, True, True, True])
            slipped[place] = (x, y, (quarter + 1) % 4)
            self.assertIs(tu.is_course(EXAMPLE, slipped, row, 3), False)

    def test_row_without_commands_and_other_lengths(self):
        self.assertIs(tu.is_course(EXAMPLE, [(1, 1, 1)], [], 0), True)
        self.assertIs(tu.is_course(EXAMPLE, [(1, 1, 1)], [], 3), True)
        for told, row in [([], []), ([(1, 1, 1)] * 2, []), ([], [(0, 0, 0)]), ([(1, 1, 1)], [(0, 0, 0)]),
                          ([(1, 1, 1)] * 3, [(0, 0, 0)])]:
            self.assertIs(tu.is_course(EXAMPLE, told, row, 3), False)

    def test_what_is_no_attitude(self):
        for bad in [*no_attitudes(5), (99, -99, 0)]:
            for told in ([bad], [bad, (0, 0, 0)], [(0, 0, 0), bad]):
                self.assertIs(tu.is_course(EXAMPLE, told, [(0, 0, 0)] * (len(told) - 1), 3), False)

    def test_row_of_2000_commands(self):
        row = some_row(4, 9, 2000)
        course = plain_course(SKIES[9], (0, 0, 0), row)
        self.assertIs(tu.is_course(SKIES[9], course, row, 3), True)
        self.assertIs(tu.is_course(SKIES[9], [*course[:-1], (*course[-1][:2], (course[-1][2] + 1) % 4)], row, 3), False)


class WholeFileTest(CallsTest, unittest.TestCase):

    SKY = EXAMPLE
    ATTITUDES = [(told, (InvalidAttitude, {"attitude": told})) for told in no_attitudes(5)]
    LISTS = [([(0, 0, 0), told, (9, 9, 9)], (InvalidAttitude, {"attitude": told})) for told in no_attitudes(5)]
    COMMANDS = [(told, (InvalidCommand, {"command": told})) for told in no_commands(5)]
    ROWS = [([(4, -4, 3), told, (9, 9, 9)], (InvalidCommand, {"command": told})) for told in no_commands(5)]
    CALLS = [(tu.as_one, [[(1, 0, 0)]], [(0, ROWS)]),
             (tu.reached, [(4, 4, 3), [(1, 0, 0)]], [(0, ATTITUDES), (1, ROWS)]),
             (tu.row_to, [(4, 4, 3), (0, 0, 0), [(1, 0, 0)]], [(0, ATTITUDES), (1, ATTITUDES[::-1]), (2, ROWS)]),
             (tu.row_to, [(4, 4, 3), (4, 4, 3), [(1, 0, 0)]], [(0, ATTITUDES), (1, ATTITUDES[::-1]), (2, ROWS)]),
             (tu.behind, [[(4, 4, 3)], (1, 0, 0), 1], [(0, LISTS), (1, COMMANDS)]),
             (tu.behind, [[], (1, 0, 0), 1], [(1, COMMANDS)]),
             (tu.is_course, [[(0, 0, 0), (1, 0, 0)], [(1, 0, 0)], 0], [(1, ROWS)]),
             (tu.is_course, [[(9, 9, 9)], [(1, 0, 0)], 0], [(1, ROWS)])]

    def test_nothing_more_is_changed(self):
        self.assertFalse(changed_by(tu.behind, EXAMPLE, [(3, 3, 1), (0, 1, 2), (3, 3, 1)], (1, 0, 0), 2))

    def test_answers_are_new(self):
        for call, given, _ in (self.CALLS[1], self.CALLS[3], self.CALLS[4]):
            was = call(EXAMPLE, *given)
            call(EXAMPLE, *given).append(0)
            self.assertEqual(call(EXAMPLE, *given), was)

    def test_examples(self):
        self.assertEqual((tu.as_one(EXAMPLE, [(1, 0, 1), (1, 0, 0)]),
                          tu.row_to(EXAMPLE, (0, 0, 0), (0, 2, 1), [(0, 1, 0), (0, 0, 1)])),
                         ((1, 1, 1), [(0, 1, 0), (0, 1, 0), (0, 0, 1)]))
        self.assertEqual(tu.behind(EXAMPLE, [(0, 0, 0)], (1, 0, 0), 1),
                         [(x, y, 0) for x in (0, 1, 2) for y in (0, 1, 4)])


if __name__ == "__main__":
    unittest.main()
