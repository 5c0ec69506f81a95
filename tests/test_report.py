"""Tests of starward.report: point [81] and the interface."""

import unittest

from starward.attitudes import attitudes
from starward.errors import InvalidAttitude, InvalidSighting
from starward.report import need_table, sky_map, view
from starward.sightings import needs
from starward.sky import Sky
from tests.plain import changed_by, plain_offset, plain_seen, raised, some_sighting, some_sky, what_is_raised


def some_skies():
    """Return skies of several sides and cameras."""
    return [some_sky(1, 5, (1, 1, 1, 4), 20), some_sky(2, 4, (1, 0, 0, 5), 20), some_sky(3, 9, (3, 1, 2, 6), 20),
            some_sky(4, 9, (4, 0, 1, 3), 20), some_sky(5, 6, (0, 0, 0, 1), 12), Sky(8, [], (2, 1, 0, 1))]


class SkyMapTest(unittest.TestCase):

    def test_known_map(self):
        sky = Sky(5, [(1, 0, 5), (4, 4, 2), (2, 3, 3), (2, 3, 9), (2, 3, 1), (0, 1, 8)], (1, 0, 0, 7))
        self.assertEqual(sky_map(sky), "....2\n..9..\n.....\n8....\n.5...")

    def test_sky_without_stars(self):
        self.assertEqual(sky_map(Sky(4, [], (1, 0, 0, 1))), "....\n....\n....\n....")

    def test_maps(self):
        for sky in some_skies():
            lines = sky_map(sky).split("\n")
            self.assertEqual((len(lines), {len(line) for line in lines}), (sky.side, {sky.side}))
            for x in range(sky.side):
                for y in range(sky.side):
                    there = [star[2] for star in sky.stars if star[:2] == (x, y)]
                    self.assertEqual(lines[sky.side - 1 - y][x], str(max(there)) if there else ".")


class ViewTest(unittest.TestCase):

    def test_known_views(self):
        sky = Sky(5, [(0, 0, 5), (1, 0, 6), (1, 0, 7), (0, 4, 4), (0, 1, 3), (2, 0, 9)], (1, 1, 1, 5))
        self.assertEqual(view(sky, (0, 0, 0)), "...\n.57\n.4.")
        self.assertEqual(view(sky, (0, 0, 1)), "...\n45.\n.7.")
        self.assertEqual(view(sky, (0, 0, 2)), ".4.\n75.\n...")
        self.assertEqual(view(sky, (0, 0, 3)), ".7.\n.54\n...")
        self.assertEqual(view(sky, (3, 2, 0)), "...\n...\n...")

    def test_window_of_one_place(self):
        sky = Sky(4, [(2, 3, 4), (2, 3, 5)], (0, 0, 0, 4))
        self.assertEqual([view(sky, attitude) for attitude in [(2, 3, 1), (2, 2, 1)]], ["5", "."])

    def test_views(self):
        for sky in some_skies():
            for attitude in attitudes(sky)[::7]:
                lines = view(sky, attitude).split("\n")
                width = 2 * sky.reach + 1
                self.assertEqual((len(lines), {len(line) for line in lines}), (width, {width}))
                seen = [(plain_offset(sky, attitude, sky.stars[number]), sky.stars[number][2])
                        for number in plain_seen(sky, attitude)]
                for dx in range(-sky.reach, sky.reach + 1):
                    for dy in range(-sky.reach, sky.reach + 1):
                        there = [brightness for aside, brightness in seen if aside == (dx, dy)]
                        sign = lines[sky.reach - dy][sky.reach + dx]
                        self.assertEqual(sign, str(max(there)) if there else ".")

    def test_errors(self):
        sky = some_skies()[0]
        for attitude in [(5, 0, 0), (0, 5, 0), (0, 0, 4), (-1, 0, 0), (0, -1, 0), (0, 0, -1), (), (0, 0), (0, 0, 0, 0)]:
            self.assertEqual(what_is_raised(view, sky, attitude), (InvalidAttitude, {"attitude": attitude}))


class NeedTableTest(unittest.TestCase):

    def test_known_table(self):
        sky = Sky(4, [(0, 0, 9), (0, 0, 5)], (0, 0, 0, 1))
        self.assertEqual(need_table(sky, ((0, 0, 5),), 1, 0), "0:0:0 1 0\n0:0:1 1 0\n0:0:2 1 0\n0:0:3 1 0")
        self.assertEqual(need_table(sky, ((0, 0, 5), (0, 0, 9)), 0, 1), "0:0:0 0 0\n0:0:1 0 0\n0:0:2 0 0\n0:0:3 0 0")

    def test_lost(self):
        sky = Sky(4, [(0, 0, 9), (0, 0, 5)], (0, 0, 0, 1))
        self.assertEqual(need_table(sky, ((0, 0, 5),), 0, 0), "lost")
        self.assertEqual(need_table(Sky(4, [], (0, 0, 0, 1)), ((0, 0, 1),) * 21, 20, 20), "lost")

    def test_tables(self):
        for sky in some_skies():
            for many in (0, 1, 4):
                sighting = some_sighting(many, sky, many)
                for bounds in [(0, 0), (1, 0), (0, 1), (2, 3), (20, 20)]:
                    lines = [f"{x}:{y}:{q} {missing} {false}" for (x, y, q), (missing, false)
                             in sorted(needs(sky, sighting).items()) if missing <= bounds[0] and false <= bounds[1]]
                    self.assertEqual(need_table(sky, sighting, *bounds), "\n".join(lines) if lines else "lost")

    def test_errors(self):
        sky = Sky(5, [], (1, 0, 0, 2))
        for sighting in [((2, 0, 5),), ((0, 0, 1),), ((0, 0, 10),), ((0, 0),), ((0, 0, 5), (0, 0, 4)),
                         ((0, 0, 5),) * 61]:
            self.assertIs(type(raised(need_table, sky, sighting, 0, 0)), InvalidSighting, sighting)

    def test_nothing_is_changed(self):
        sky = some_skies()[0]
        for call, *given in [(sky_map,), (view, (1, 2, 3)), (need_table, ((0, 0, 5), (1, 1, 5)), 2, 2)]:
            self.assertFalse(changed_by(call, sky, *given), call)


if __name__ == "__main__":
    unittest.main()
