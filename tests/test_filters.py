"""Tests of starward.filters: points [60], [62], [69], [70] and [76], and the interface."""

import unittest
from functools import cache
from itertools import product

from starward import filters as fi
from starward.attitudes import attitudes
from starward.confuse import confusing_sighting
from starward.errors import InvalidAttitude, InvalidCommand, InvalidSighting
from starward.sightings import need, possible
from starward.sky import Sky
from starward.turns import is_course
from tests.plain import (CallsTest, no_attitudes, no_commands, no_sightings, plain_course, plain_led, some_row,
                         some_sighting, some_sky)

EXAMPLE = Sky(5, [(0, 0, 9), (1, 0, 4)], (1, 0, 0, 1))
LOG = [("look", ((0, 0, 9), (1, 0, 4))), ("turn", (1, 0, 0)), ("look", ((-1, 0, 9), (0, 0, 4)))]
BOUNDS = [(0, 0), (1, 0), (0, 1), (2, 1), (3, 4), (20, 20)]


@cache
def some_cases():
    """Return tuples (sky, log, slip) whose courses are few enough to go through them all."""
    skies = [some_sky(1, 4, (1, 0, 0, 4), 5), some_sky(2, 4, (1, 0, 1, 2), 8), Sky(4, [(0, 0, 9)], (0, 0, 0, 1))]
    cases = [(EXAMPLE, LOG, 0), (EXAMPLE, LOG, 1), (EXAMPLE, [], 2), (EXAMPLE, LOG[1:2], 1), (EXAMPLE, LOG[:1], 3),
             (EXAMPLE, LOG[::2], 0)]
    for seed, (sky, slip) in enumerate(product(skies, range(4))):
        turns = [("turn", command) for command in some_row(seed, 4, 2)]
        looks = [("look", some_sighting(seed + many, sky, many)) for many in (1, 2, 1, 3)]
        cases.append((sky, [*looks[:2], turns[0], looks[2], turns[1], looks[3]], slip))
        cases.append((sky, [turns[0], looks[0], turns[1]], slip))
    return cases


@cache
def kept_need(sky, attitude, sighting):
    """Return what an attitude needs."""
    return need(sky, attitude, sighting)


def courses(sky, log, slip):
    """Return all courses of a log."""
    found = [[attitude] for attitude in attitudes(sky)]
    for word, command in log:
        if word == "turn":
            led = {attitude: plain_led(sky, attitude, command, slip) for attitude in attitudes(sky)}
            found = [[*course, there] for course in found for there in led[course[-1]]]
    return found


def looks(sky, log, course):
    """Return the list of what the attitudes of a course need at the looks of a log."""
    found, turns = [], 0
    for word, told in log:
        if word == "turn":
            turns += 1
        else:
            found.append(kept_need(sky, course[turns], told))
    return found


@cache
def plain_case(place):
    """Return for a case a dict from attitudes to a list of tuples, over all courses that end with them.

    A tuple has the greatest ones of both needed numbers over the looks, and their sums.
    """
    sky, log, slip = some_cases()[place]
    found = {}
    for course in courses(sky, log, slip):
        told = [*looks(sky, log, course), (0, 0)]
        found.setdefault(course[-1], set()).add((tuple(map(max, zip(*told))), tuple(map(sum, zip(*told)))))
    return found


def within(needs, missing, false):
    """Return True if neither number is above its bound."""
    return needs[0] <= missing and needs[1] <= false


class LookByLookTest(unittest.TestCase):

    def test_known_against_all_courses(self):
        for place, (sky, log, slip) in enumerate(some_cases()):
            found = plain_case(place)
            for missing, false in BOUNDS:
                # Both numbers have to be within at the same course, so the greatest ones of one course count.
                can = [end for end in sorted(found) if any(within(told, missing, false) for told, _ in found[end])]
                self.assertEqual(fi.known(sky, log, slip, missing, false), can)

    def test_course_behind_is_one_that_shows_it(self):
        for place, (sky, log, slip) in enumerate(some_cases()):
            row = [told for word, told in log if word == "turn"]
            for missing, false in BOUNDS[:5]:
                can = fi.known(sky, log, slip, missing, false)
                for end in attitudes(sky)[::7]:
                    told = fi.course_behind(sky, log, slip, missing, false, end)
                    if end not in can:
                        self.assertIsNone(told)
                        continue
                    self.assertIs(is_course(sky, told, row, slip), True)
                    self.assertEqual(told[-1], end)
                    self.assertTrue(all(within(each, missing, false) for each in looks(sky, log, told)))

    def test_empty_log(self):
        self.assertEqual(fi.known(EXAMPLE, [], 0, 0, 0), attitudes(EXAMPLE))
        self.assertEqual(fi.known_in_all(EXAMPLE, [], 3, 0, 0), attitudes(EXAMPLE))
        self.assertEqual(fi.frontiers(EXAMPLE, [], 3), {attitude: [(0, 0)] for attitude in attitudes(EXAMPLE)})
        self.assertEqual(fi.needs_of(EXAMPLE, [], [(1, 2, 3)]), (0, 0))
        self.assertEqual(fi.course_behind(EXAMPLE, [], 1, 0, 0, (1, 2, 3)), [(1, 2, 3)])
        self.assertEqual(fi.course_in_all(EXAMPLE, [], 1, 0, 0, (1, 2, 3)), [(1, 2, 3)])

    def test_one_look_is_what_is_possible(self):
        for sky in (EXAMPLE, some_sky(5, 5, (1, 1, 1, 3), 12)):
            for many, (missing, false) in product(range(4), BOUNDS):
                sighting = some_sighting(many, sky, many)
                self.assertEqual(fi.known(sky, [("look", sighting)], 0, missing, false),
                                 possible(sky, sighting, missing, false))

    def test_empty_lot_stays_empty(self):
        log = [("look", ((0, 0, 1),)), ("turn", (1, 0, 0)), ("look", ())]
        self.assertEqual(fi.known(EXAMPLE, log, 3, 20, 0), [])
        self.assertEqual(fi.known_in_all(EXAMPLE, log, 3, 20, 0), [])
        self.assertIsNone(fi.course_behind(EXAMPLE, log, 3, 20, 0, (0, 0, 0)))
        self.assertIsNone(fi.course_in_all(EXAMPLE, log, 3, 20, 0, (0, 0, 0)))


class InAllTest(unittest.TestCase):

    def test_frontiers_against_all_courses(self):
        for place, (sky, log, slip) in enumerate(some_cases()):
            found = plain_case(place)
            told = fi.frontiers(sky, log, slip)
            self.assertEqual(sorted(told), sorted(found))
            for end in found:
                sums = sorted({each for _, each in found[end]})
                least = [each for each in sums if not any(other != each and within(other, *each) for other in sums)]
                self.assertEqual(told[end], least)

    def test_known_in_all_against_all_courses(self):
        for place, (sky, log, slip) in enumerate(some_cases()):
            found = plain_case(place)
            for missing, false in [*BOUNDS, (4, 2), (1, 7)]:
                can = [end for end in sorted(found) if any(within(sums, missing, false) for _, sums in found[end])]
                self.assertEqual(fi.known_in_all(sky, log, slip, missing, false), can)

    def test_course_in_all_is_one_that_shows_it(self):
        for place, (sky, log, slip) in enumerate(some_cases()):
            row = [told for word, told in log if word == "turn"]
            for missing, false in [*BOUNDS[1:], (4, 2), (1, 7)]:
                can = fi.known_in_all(sky, log, slip, missing, false)
                for end in attitudes(sky)[::9]:
                    told = fi.course_in_all(sky, log, slip, missing, false, end)
                    if end not in can:
                        self.assertIsNone(told)
                        continue
                    self.assertIs(is_course(sky, told, row, slip), True)
                    self.assertEqual(told[-1], end)
                    self.assertTrue(within(fi.needs_of(sky, log, told), missing, false))

    def test_bounds_just_reached_and_just_missed(self):
        for sky, log, slip in some_cases():
            for end, frontier in list(fi.frontiers(sky, log, slip).items())[::11]:
                for missing, false in frontier:
                    can = [end in fi.known_in_all(sky, log, slip, *bounds)
                           for bounds in [(missing, false), (missing - 1, false), (missing, false - 1)]
                           if max(bounds) <= 20 and min(bounds) >= 0]
                    self.assertEqual(can[1:], [False] * (len(can) - 1))
                    self.assertTrue(can[0])

    def test_without_slips_there_is_one_tuple(self):
        for sky, log, _ in some_cases():
            told = fi.frontiers(sky, log, 0)
            self.assertEqual(sorted(told), attitudes(sky))
            self.assertEqual({len(frontier) for frontier in told.values()}, {1})

    def test_some_frontiers_have_several_tuples(self):
        longest = [max(len(frontier) for frontier in fi.frontiers(*case).values()) for case in some_cases()]
        self.assertGreater(max(longest), 2)

    def test_needs_of_lists_that_are_no_courses(self):
        for sky, log, _ in some_cases():
            turns = len([word for word, _ in log if word == "turn"])
            for first in attitudes(sky)[::13]:
                told = [first, *attitudes(sky)[::7]][:turns + 1]
                self.assertEqual(fi.needs_of(sky, log, told), tuple(map(sum, zip((0, 0), *looks(sky, log, told)))))

    def test_answers_are_new(self):
        sky, log, slip = some_cases()[8]
        was = fi.frontiers(sky, log, slip)
        told = fi.frontiers(sky, log, slip)
        self.assertEqual(len({id(frontier) for frontier in told.values()}), len(told))
        for frontier in told.values():
            frontier.append((0, 0))
        self.assertEqual(fi.frontiers(sky, log, slip), was)
        fi.known(sky, [], 0, 0, 0).clear()
        self.assertEqual(fi.known(sky, [], 0, 0, 0), attitudes(sky))


class GreatLogTest(unittest.TestCase):

    def test_true_course_can_be(self):
        sky = some_sky(7, 9, (3, 1, 1, 3), 20)
        row = some_row(7, 9, 29)
        for slip in (0, 3):
            # The course slips, each time as far as it may.
            course = [(4, 4, 1)]
            for command in row:
                course.append(plain_led(sky, course[-1], command, slip)[-1])
            log = []
            for there, command in zip(course, [*row, None]):
                log.append(("look", confusing_sighting(sky, there, there, 0, 0)))
                log.append(("turn", command))
            log = [*log[:-1], ("look", ())]
            self.assertEqual(len(log), 60)
            missing, false = fi.needs_of(sky, log, course)
            self.assertEqual((missing, false), (kept_need(sky, course[-1], ())[0], 0))
            self.assertIn(course[-1], fi.known(sky, log, slip, missing, false))
            self.assertIn(course[-1], fi.known_in_all(sky, log, slip, missing, false))
            for call in (fi.course_behind, fi.course_in_all):
                told = call(sky, log, slip, missing, false, course[-1])
                self.assertIs(is_course(sky, told, row, slip), True)
                self.assertEqual(told[-1], course[-1])
            self.assertTrue(within(fi.frontiers(sky, log, slip)[course[-1]][0], missing, 99))

    def test_looks_of_60_spots(self):
        sky = some_sky(8, 9, (3, 1, 1, 3), 20)
        log = [("look", some_sighting(place, sky, 60)) for place in range(60)]
        told = fi.frontiers(sky, log, 3)
        for attitude in attitudes(sky)[::40]:
            self.assertEqual(told[attitude], [fi.needs_of(sky, log, [attitude])])
        self.assertEqual(fi.known(sky, log, 3, 20, 20), [])

    def test_60_turns_with_slips_of_3(self):
        sky = some_sky(9, 9, (4, 0, 0, 1), 20)
        row = some_row(9, 9, 60)
        log = [("turn", command) for command in row]
        self.assertEqual(fi.known(sky, log, 3, 0, 0), attitudes(sky))
        self.assertEqual(fi.frontiers(sky, log, 3), {attitude: [(0, 0)] for attitude in attitudes(sky)})
        for call in (fi.course_behind, fi.course_in_all):
            self.assertIs(is_course(sky, call(sky, log, 3, 0, 0, (8, 8, 3)), row, 3), True)
            self.assertEqual(plain_course(sky, call(sky, log, 0, 0, 0, (8, 8, 3))[0], row)[-1], (8, 8, 3))


class WholeFileTest(CallsTest, unittest.TestCase):

    SKY = EXAMPLE
    ATTITUDES = [(told, (InvalidAttitude, {"attitude": told})) for told in no_attitudes(5)]
    COURSES = [([(4, 4, 3), told], (InvalidAttitude, {"attitude": told})) for told in no_attitudes(5)]
    LOGS = [*[([LOG[0], ("turn", told), ("look", ((9, 9, 9),)), ("turn", (9, 9, 9))],
               (InvalidCommand, {"command": told})) for told in no_commands(5)],
            *[([LOG[1], ("look", told), ("turn", (9, 9, 9)), LOG[0]], (InvalidSighting, {}))
              for told in no_sightings(EXAMPLE)]]
    CALLS = [(fi.known, [LOG, 1, 2, 2], [(0, LOGS)]), (fi.frontiers, [LOG, 1], [(0, LOGS)]),
             (fi.known_in_all, [LOG, 1, 2, 2], [(0, LOGS)]),
             (fi.needs_of, [LOG, [(0, 0, 0), (4, 4, 3)]], [(0, LOGS), (1, COURSES)]),
             (fi.course_behind, [LOG, 1, 2, 2, (1, 0, 0)], [(0, LOGS), (4, ATTITUDES)]),
             (fi.course_behind, [LOG, 1, 0, 0, (4, 4, 3)], [(0, LOGS), (4, ATTITUDES)]),
             (fi.course_in_all, [LOG, 1, 2, 2, (1, 0, 0)], [(0, LOGS), (4, ATTITUDES)]),
             (fi.course_in_all, [LOG, 1, 0, 0, (4, 4, 3)], [(0, LOGS), (4, ATTITUDES)])]

    def test_examples(self):
        self.assertEqual((fi.known(EXAMPLE, LOG, 1, 0, 0), fi.needs_of(EXAMPLE, LOG, [(0, 0, 0), (2, 0, 0)]),
                          fi.frontiers(EXAMPLE, LOG, 1)[(2, 0, 0)]), ([(1, 0, 0)], (1, 2), [(1, 2)]))


if __name__ == "__main__":
    unittest.main()
