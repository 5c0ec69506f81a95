"""Tests of starward.session: points [13] and [82], and the interface."""

import unittest
from random import Random

from starward.alike import still_motions
from starward.notation import format_sighting, format_sky
from starward.report import view
from starward.session import Session
from starward.sightings import possible
from starward.sky import Sky
from starward.sure import least_distance
from tests.plain import changed_by, some_sighting, some_sky, told_of_sky
from tests.test_desk import Model

BEGIN = Sky(5, [(0, 0, 9), (1, 0, 4)], (1, 0, 0, 1))
FORM = "side 5/camera 1 0 0 1/star 0 0 9/star 1 0 4"
NO_NUMBERS = ["", "x", "1.0", "+1", "-", "--1", "01", "00", "-0", "-01", "1000", "-1000", "0000", "1:2", "1 ", "one"]


def written(told):
    """Return the written forms of attitudes or motions."""
    return " ".join("{}:{}:{}".format(*each) for each in told)


class FormTest(unittest.TestCase):

    def check(self, line, reply, *ahead):
        """Check the reply to a line of a new session behind some other lines."""
        session = Session(BEGIN)
        for other in ahead:
            self.assertEqual(session.obey(other), "ok", other)
        self.assertEqual(session.obey(line), reply, (line, ahead))
        if reply.startswith("error"):
            other = Session(BEGIN)
            for each in ahead:
                other.obey(each)
            self.assertEqual(session.obey("sky"), other.obey("sky"))

    def test_lines_that_are_none(self):
        for line in ["", " ", "  ", "star", "no", "no star", "nostar 0 0 9", "camera", "move", "possible", "distance",
                     "view", "Sky", "SKY", "sky ", " sky", "sky  ", "sky sky", "sky 1", "undo 1", "redo redo",
                     "begin 0", "keep keep", "drop 1", "still 0", "star 1 1", "star 1 1 1 1", "star  1 1 1",
                     "star 1  1 1", "star 1 1 1 ", " star 1 1 1", "no  star 0 0 9", "no star 0 0", "no star 0 0 9 9",
                     "no camera 1 0 0 1", "no 0 0 9", "no no star 0 0 9", "star no 0 0 9", "camera 1 0 0",
                     "camera 1 0 0 1 1", "move 1 1", "move 1 1 1 1", "distance", "distance 0 0", "distance 10",
                     "distance -1", "distance 999", "view 0 0 0", "view 0:0", "view 0:0:0:0", "view 0:0:0 0:0:0",
                     "view ::", "view 0::0", "view 0:0:", "view 0: 0:0", "help", "?", "#", "possible 0 0",
                     "possible 0 dark", "possible dark 0 0", "possible 0 0 0 dark", "possible 21 0 dark",
                     "possible 0 21 dark", "possible -1 0 dark", "possible 0 -1 dark", "possible 0 0 dark dark",
                     "possible 0 0 dark 0:0:9", "possible 0 0 0:0:9 dark", "possible 0 0 Dark", "possible 0 0 0:0",
                     "possible 0 0 0:0:9:9", "possible 0 0 0:0:9  1:0:4", "possible 0 0 0:0:9 ", "possible 0  0 dark",
                     "possible 0 0  dark", "possible 0 0 0:0:1000", "possible 0 0 0:0:09", "possible 0 0 -0:0:9",
                     "possible 0 0 0:0:x", "possible 0 0 0:0:9 1:0"]:
            self.check(line, "error command")

    def test_numbers_that_are_none(self):
        for bad in NO_NUMBERS:
            for line in ["star {} 1 1", "star 1 1 {}", "no star 0 {} 9", "camera 1 0 {} 1", "move {} 0 0",
                         "move 0 0 {}", "distance {}", "possible {} 0 dark", "possible 0 {} dark",
                         "possible 0 0 0:0:{}", "possible 0 0 {}:0:9", "view {}:0:0", "view 0:0:{}"]:
                self.check(line.format(bad), "error command")

    def test_numbers_of_three_digits(self):
        for number in ("999", "-999", "100", "-100"):
            for line, reply in [("star {} 1 1", "error sky"), ("no star {} 0 9", "error star"),
                                ("camera {} 0 0 1", "error sky"), ("move {} 0 0", "error motion"),
                                ("view {}:0:0", "error attitude"), ("possible 0 0 {}:0:9", "error sighting"),
                                ("possible 0 0 0:0:{}", "error sighting"), ("distance {}", "error command"),
                                ("possible {} 0 dark", "error command")]:
                self.check(line.format(number), reply)

    def test_changes(self):
        for line, sky in [("star 2 2 5", FORM + "/star 2 2 5"),
                          ("star 0 0 5", FORM.replace("star 0 0 9", "star 0 0 5/star 0 0 9")),
                          ("no star 0 0 9", FORM.replace("/star 0 0 9", "")),
                          ("camera 0 0 2 3", FORM.replace("1 0 0 1", "0 0 2 3")),
                          ("move 1 0 1", "side 5/camera 1 0 0 1/star 1 0 9/star 1 1 4"), ("move 0 0 0", FORM),
                          ("begin", FORM)]:
            self.check("sky", sky, line)
            if line != "begin":
                self.check("sky", FORM, line, "undo")
                self.check("sky", sky, line, "undo", "redo")
                self.check("sky", FORM, "begin", line, "drop")
                self.check("sky", sky, "begin", line, "keep")
                self.check("undo", "error undo", "begin", line, "drop")

    def test_errors(self):
        for line, reply in [("star 0 0 9", "error taken"), ("star 5 0 9", "error sky"), ("star 0 -1 9", "error sky"),
                            ("star 0 0 0", "error sky"), ("star 0 0 10", "error sky"), ("no star 0 0 8", "error star"),
                            ("no star 9 9 9", "error star"), ("camera 2 1 0 1", "error sky"),
                            ("camera 1 0 0 0", "error sky"), ("move 5 0 0", "error motion"),
                            ("move 0 0 4", "error motion"), ("move -1 0 0", "error motion"),
                            ("undo", "error undo"), ("redo", "error redo"), ("keep", "error block"),
                            ("drop", "error block"), ("view 5:0:0", "error attitude"), ("view 0:0:4", "error attitude"),
                            ("view 0:-1:0", "error attitude"), ("possible 0 0 2:0:9", "error sighting"),
                            ("possible 0 0 0:0:10", "error sighting"), ("possible 0 0 1:0:9 0:0:9", "error sighting"),
                            ("possible 20 20 0:0:0", "error sighting")]:
            self.check(line, reply)
        self.check("possible 0 0 " + " ".join(["0:0:9"] * 61), "error sighting")
        self.check("possible 0 20 " + " ".join(["0:0:9"] * 60), "lost")
        self.check("redo", "error redo", "star 2 2 2", "undo", "star 3 3 3")
        self.check("keep", "error block", "begin", "drop")
        self.check("possible 0 0 1:0:9", "error sighting", "camera 0 0 0 1")

    def test_questions(self):
        for seed, sky in enumerate([BEGIN, some_sky(1, 5, (1, 1, 1, 2), 6), some_sky(2, 4, (0, 0, 0, 1), 3),
                                    Sky(4, [], (1, 0, 0, 1)), some_sky(3, 7, (2, 1, 2, 3), 12)]):
            session = Session(sky)
            self.assertEqual(session.obey("sky"), format_sky(sky).replace("\n", "/"))
            self.assertEqual(session.obey("still"), written(still_motions(sky)))
            for slack in range(10):
                self.assertEqual(session.obey(f"distance {slack}"), str(least_distance(sky, slack)[0]))
            for attitude in [(0, 0, 0), (1, 3, 2), (3, 0, 3)]:
                self.assertEqual(session.obey("view " + written([attitude])), view(sky, attitude).replace("\n", "/"))
            for many in range(4):
                sighting = some_sighting(seed, sky, many)
                for missing, false in [(0, 0), (1, 0), (0, 20), (20, 20), (20, 0)]:
                    told = possible(sky, sighting, missing, false)
                    self.assertEqual(session.obey(f"possible {missing} {false} {format_sighting(sighting)}"),
                                     written(told) if told else "lost")

    def test_words(self):
        session = Session(BEGIN)
        for line, reply in [("view 0:0:0", ".../.94/..."), ("possible 0 0 0:0:9 1:0:4", "0:0:0"),
                            ("possible 0 0 -1:-1:4 0:0:9", "lost"), ("still", "0:0:0"), ("distance 0", "0"),
                            ("sky", FORM), ("star 4 4 1", "ok"), ("sky", FORM + "/star 4 4 1")]:
            self.assertEqual(session.obey(line), reply)
        empty = Session(Sky(4, [], (0, 0, 0, 1)))
        self.assertEqual((empty.obey("view 0:0:0"), empty.obey("sky")), (".", "side 4/camera 0 0 0 1"))


class PlayTest(unittest.TestCase):

    def test_lines_of_a_text(self):
        for text, replies in [("", ["error command"]), ("\n", ["error command"] * 2),
                              ("undo\n", ["error undo", "error command"]),
                              ("star 2 2 2\nundo\nundo", ["ok", "ok", "error undo"]),
                              ("begin\n\nmove 1 0 0\ndrop\nsky", ["ok", "error command", "ok", "ok", FORM])]:
            self.assertEqual(Session(BEGIN).play(text), replies)

    def test_session_goes_on(self):
        session = Session(BEGIN)
        self.assertEqual(session.play("star 2 2 2\nbegin"), ["ok", "ok"])
        self.assertEqual(session.play("drop\nno star 2 2 2\nsky"), ["ok", "ok", FORM])
        session.play("sky").append("more")
        self.assertEqual(session.play("sky"), [FORM])

    def test_no_sky_is_changed(self):
        sky = some_sky(1, 5, (1, 0, 0, 1), 4)
        was = told_of_sky(sky)
        Session(sky).play("star 0 0 1\nmove 1 1 1\ncamera 0 0 0 2\ndistance 0\nundo")
        self.assertEqual(told_of_sky(sky), was)
        self.assertFalse(changed_by(lambda told, text: Session(told).play(text), sky, "sky\nundo"))

    def some_line(self, chance):
        """Return a line that changes a session, and how a model is changed so."""
        x, y, last = chance.randrange(5), chance.randrange(5), chance.randrange(4)
        return chance.choice([
            (f"star {x} {y} {last}", lambda model: model.change("star", (x, y, last))),
            (f"no star {x} {y} {last}", lambda model: model.change("no star", model.sky.number_of((x, y, last)))),
            (f"move {x} {y} {last}", lambda model: model.change("move", (x, y, last))),
            (f"camera {x} 0 {last} 2", lambda model: model.change("camera", (x, 0, last, 2))),
            ("undo", Model.undo), ("redo", Model.redo), ("begin", Model.begin), ("keep", Model.keep),
            ("drop", Model.drop)])

    def test_text_of_many_lines(self):
        chance = Random(9)
        model, lines, replies = Model(BEGIN), [], []
        names = {"InvalidSky": "sky", "StarTaken": "taken", "TypeError": "star", "NothingToUndo": "undo",
                 "NothingToRedo": "redo", "NoBlock": "block"}
        for _ in range(4000):
            line, change = self.some_line(chance)
            lines.extend([line, "sky"])
            try:
                change(model)
                replies.append("ok")
            except (ValueError, TypeError) as error:
                replies.append("error " + names[type(error).__name__])
            replies.append(format_sky(model.sky).replace("\n", "/"))
        self.assertEqual(Session(BEGIN).play("\n".join(lines)), replies)
        self.assertEqual({reply for reply in replies if reply.startswith("error")},
                         {"error " + name for name in names.values()})


if __name__ == "__main__":
    unittest.main()
