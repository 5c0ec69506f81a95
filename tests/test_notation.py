"""Tests of starward.notation: points [13] and [14], and the interface."""

import unittest
from itertools import product

from starward.errors import InvalidNotation, InvalidSighting
from starward.notation import (format_attitude, format_sighting, format_sky, parse_sky, read_number,
                               read_sighting)
from starward.sky import Sky
from tests.plain import all_cameras, changed_by, plain_spots, raised, some_sky, told_of_sky, what_is_raised

WRITTEN = "side 5\ncamera 1 1 1 2\nstar 1 0 4\nstar 1 0 5\nstar 2 2 3\nstar 4 4 2"
NO_NUMBERS = ["", "-", "--1", "+1", "00", "01", "-0", "-01", "007", " 1", "1 ", "1\n", "\n1", "1 2", "1:2", "1_0",
              "1.0", "1e3", "0x1", "one", "a", "1a", "a1", "- 1", "1-", "1-2", "-1-", "/", ":"]


class WrittenTest(unittest.TestCase):

    def test_sky(self):
        sky = Sky(5, [(4, 4, 2), (1, 0, 5), (2, 2, 3), (1, 0, 4)], (1, 1, 1, 2))
        self.assertEqual(format_sky(sky), WRITTEN)
        self.assertEqual(format_sky(Sky(9, [], (4, 0, 2, 9))), "side 9\ncamera 4 0 2 9")

    def test_sighting(self):
        self.assertEqual(format_sighting(()), "dark")
        self.assertEqual(format_sighting(((-1, 0, 5),)), "-1:0:5")
        self.assertEqual(format_sighting(((-1, 1, 10), (0, -2, 3), (0, -2, 3))), "-1:1:10 0:-2:3 0:-2:3")

    def test_attitude(self):
        self.assertEqual(format_attitude((0, 8, 3)), "0:8:3")
        self.assertEqual(format_attitude((4, 0, 0)), "4:0:0")


class ReadNumberTest(unittest.TestCase):

    def test_written_integers(self):
        for number in [*range(-1200, 1200), 10 ** 40, -10 ** 40 - 1]:
            self.assertEqual(read_number(str(number)), number)

    def test_other_texts(self):
        for text in NO_NUMBERS:
            self.assertIsNone(read_number(text), text)

    def test_all_signs(self):
        for code in range(32, 127):
            sign = chr(code)
            self.assertEqual(read_number(sign), code - 48 if sign in "0123456789" else None)
            self.assertEqual(read_number("1" + sign), 10 + code - 48 if sign in "0123456789" else None)


class ParseSkyTest(unittest.TestCase):

    def line_of(self, text):
        """Return the number of the line that InvalidNotation tells, or None if the text is read."""
        told = what_is_raised(parse_sky, text)
        if told is None:
            return None
        self.assertIs(told[0], InvalidNotation)
        self.assertEqual(list(told[1]), ["line"])
        return told[1]["line"]

    def test_written_skies_are_read(self):
        skies = [some_sky(side, side, camera, many) for side in (4, 6, 9) for many in (0, 1, 20)
                 for camera in all_cameras(side)[::13]]
        for sky in skies:
            parsed = parse_sky(format_sky(sky))
            self.assertIsInstance(parsed, Sky)
            self.assertEqual(told_of_sky(parsed), told_of_sky(sky))

    def test_empty_text_and_side(self):
        for text in ["", "\n", "\n\n", "side", "side ", "side  5", " side 5", "side 5 ", "side 05", "side +5",
                     "side 5 5", "Side 5", "side five", "side -5", "camera 1 1 1 2", "star 0 0 1", "side:5", "sky 5",
                     "side 3", "side 10", "side 0", "side 5x", "5"]:
            self.assertEqual(self.line_of(text), 1, text)
            self.assertEqual(self.line_of(text + "\ncamera 0 0 0 1"), 1, text)

    def test_text_that_ends_ahead_of_its_camera(self):
        for side in range(4, 10):
            self.assertEqual(self.line_of(f"side {side}"), 2)

    def test_camera_lines(self):
        for line in ["", "camera", "camera ", "camera 1 1 1", "camera 1 1 1 2 3", "camera 1 1 1 2 ", " camera 1 1 1 2",
                     "camera  1 1 1 2", "camera 1 1 1 02", "camera 1 1 1 -2", "camera 1:1:1:2", "star 1 0 4",
                     "side 5", "camera 1 0 0 x", "Camera 1 0 0 1", "camera 01 0 0 1", "camera -0 0 0 1"]:
            self.assertEqual(self.line_of("side 5\n" + line), 2, line)
            self.assertEqual(self.line_of("side 5\n" + line + "\nstar 0 0 1"), 2, line)

    def test_cameras_that_the_side_lets_be(self):
        for side in (4, 5, 9):
            allowed = set(all_cameras(side))
            for camera in product(range(-1, 6), range(-1, 4), range(-1, 4), (-1, 0, 1, 9, 10)):
                told = self.line_of(f"side {side}\ncamera " + " ".join(map(str, camera)))
                self.assertEqual(told, None if camera in allowed else 2, (side, camera))

    def test_star_lines(self):
        for line in ["", "star", "star ", "star 2 2", "star 2 2 3 4", "star  2 2 3", "star 2 2 3 ", " star 2 2 3",
                     "star 2 2 03", "star 2:2:3", "star 5 0 1", "star 2 5 1", "star -1 0 1", "star 2 -1 1",
                     "star 2 2 0", "star 2 2 10", "side 5", "camera 1 1 1 2", "Star 2 2 3", "star 2 2 x", "2 2 3"]:
            for behind in ["", "\nstar 3 0 1", "\nrubbish"]:
                text = "side 5\ncamera 1 1 1 2\nstar 1 0 4\n" + line + behind
                self.assertEqual(self.line_of(text), 4, text)

    def test_order_of_stars(self):
        for line, number in [("star 1 0 4", 4), ("star 1 0 3", 4), ("star 0 4 9", 4), ("star 1 0 5", None),
                             ("star 1 1 1", None), ("star 2 0 1", None)]:
            self.assertEqual(self.line_of("side 5\ncamera 1 1 1 2\nstar 1 0 4\n" + line), number, line)
        self.assertEqual(self.line_of("side 5\ncamera 1 1 1 2\nstar 1 0 4\nstar 3 0 4\nstar 2 0 4\nstar 2 0 4"), 5)

    def test_number_of_stars(self):
        stars = [f"\nstar {x} {y} 5" for x in range(5) for y in range(5)]
        self.assertIsNone(self.line_of("side 5\ncamera 0 0 0 1" + "".join(stars[:20])))
        self.assertEqual(self.line_of("side 5\ncamera 0 0 0 1" + "".join(stars[:21])), 23)
        self.assertEqual(self.line_of("side 5\ncamera 0 0 0 1" + "".join(stars[:25]) + "\nrubbish"), 23)

    def test_newlines(self):
        self.assertEqual(self.line_of("\n" + WRITTEN), 1)
        self.assertEqual(self.line_of(WRITTEN + "\n"), 7)
        self.assertEqual(self.line_of(WRITTEN + "\n\n"), 7)
        self.assertEqual(self.line_of(WRITTEN.replace("\n", "\n\n", 1)), 2)
        self.assertEqual(self.line_of("side 5\n"), 2)
        self.assertEqual(self.line_of("side 5\ncamera 1 1 1 2\n"), 3)
        self.assertEqual(self.line_of(WRITTEN.replace("\n", " ")), 1)

    def test_each_changed_sign_is_told_or_another_sky(self):
        # Just the written forms are accepted: what is read must be written as it was.
        for place, sign in product(range(len(WRITTEN)), "0 5-s\n:"):
            text = WRITTEN[:place] + sign + WRITTEN[place + 1:]
            if self.line_of(text) is None:
                self.assertEqual(format_sky(parse_sky(text)), text)


class ReadSightingTest(unittest.TestCase):

    def setUp(self):
        self.sky = Sky(5, [], (1, 1, 1, 2))

    def test_written_sightings_are_read(self):
        spots = plain_spots(self.sky)
        for sighting in [(), (spots[0],), (spots[3],) * 60, tuple(spots[:60]), tuple(spots[5::9]),
                         ((-1, -1, 10), (0, 0, 2), (0, 0, 2))]:
            self.assertEqual(read_sighting(self.sky, format_sighting(sighting)), sighting)

    def test_other_texts(self):
        for text in ["", " ", "Dark", "dark ", " dark", "dark dark", "dark 0:0:5", "0:0:5 dark", "0:0", "0:0:5:5",
                     "0:0:", ":0:5", "0 0 5", "0:0:05", "0:-0:5", "0:0:+5", "0:0:5 ", " 0:0:5", "0:0:5  0:0:5",
                     "0:0:5\n0:0:5",
                     "0:0:x", "0;0;5", "dark\n", "0:0:5\n", "()", "5"]:
            self.assertIs(type(raised(read_sighting, self.sky, text)), InvalidSighting, text)

    def test_no_sightings_of_this_sky(self):
        for text in ["2:0:5", "0:-2:5", "0:0:1", "0:0:11", "0:0:5 0:0:4", "1:0:5 0:0:5", "0:1:5 0:0:5",
                     " ".join(["0:0:5"] * 61)]:
            self.assertIs(type(raised(read_sighting, self.sky, text)), InvalidSighting, text)
        self.assertEqual(read_sighting(self.sky.with_camera((2, 0, 0, 2)), "2:0:5"), ((2, 0, 5),))

    def test_nothing_is_changed(self):
        for call, *given in [(format_sky,), (read_sighting, "0:0:5 1:1:5"), (read_sighting, "1:1:5 0:0:5")]:
            self.assertFalse(changed_by(call, self.sky, *given), call)


if __name__ == "__main__":
    unittest.main()
