"""Tests of starward.desk: points [77] to [80], and the interface."""

import unittest
from random import Random

from starward.alike import still_motions
from starward.desk import Desk
from starward.errors import (InvalidMotion, InvalidSighting, InvalidSky, NoBlock, NothingToRedo, NothingToUndo,
                             SkyError, StarTaken, UnknownStar)
from starward.sightings import possible
from starward.sky import Sky
from starward.sure import least_distance
from tests.plain import no_attitudes, told_of_sky, what_is_raised

BEGIN = Sky(4, [(0, 0, 9), (1, 0, 4)], (1, 0, 0, 1))
DARK = ("possible", (), 0, 0)
QUESTIONS = [DARK, ("possible", ((0, 0, 9),), 1, 0), ("possible", ((0, 0, 9),), 0, 1), ("distance", 0),
             ("distance", 2), ("still",)]


class Model:
    """A plain model of a desk: lists of whole skies, and of all questions asked."""

    def __init__(self, sky):
        self.sky, self.done, self.undone, self.blocks, self.known = sky, [], [], [], {}

    def state(self):
        """Return all that a block remembers."""
        return (self.sky, list(self.done), list(self.undone))

    def put_back(self, state):
        """Make all as it was."""
        self.sky, self.done, self.undone = state[0], list(state[1]), list(state[2])

    def change(self, word, told):
        """Make one change of a list."""
        if word == "all":
            was = self.state()
            try:
                for deed in told:
                    self.change(*deed)
            except SkyError:
                self.put_back(was)
                raise
            return
        sky = {"star": self.sky.with_star, "no star": self.sky.without_star, "camera": self.sky.with_camera,
               "move": self.sky.moved}[word](told)
        self.done.append(self.sky)
        self.undone = []
        self.sky = sky

    def undo(self):
        """Take a change back."""
        if not self.done:
            raise NothingToUndo("")
        self.undone.append(self.sky)
        self.sky = self.done.pop()

    def redo(self):
        """Restore a change."""
        if not self.undone:
            raise NothingToRedo("")
        self.done.append(self.sky)
        self.sky = self.undone.pop()

    def begin(self):
        """Begin a block."""
        self.blocks.append(self.state())

    def keep(self):
        """End a block."""
        if not self.blocks:
            raise NoBlock("")
        return self.blocks.pop()

    def drop(self):
        """End a block and make all as it was."""
        self.put_back(self.keep())

    def answer(self, question):
        """Answer a question."""
        word, *given = question
        told = {"possible": possible, "distance": least_distance, "still": still_motions}[word](self.sky, *given)
        self.known[(question, told_of_sky(self.sky))] = True
        return told


def history(desk):
    """Return all skies that a desk can undo and redo, and its own, and leave it as it was."""
    skies, steps = [told_of_sky(desk.sky_now())], [0, 0]
    for at, (step, back) in enumerate([(desk.undo, desk.redo), (desk.redo, desk.undo)]):
        while what_is_raised(step) is None:
            steps[at] += 1
            skies.append(told_of_sky(desk.sky_now()))
        for _ in range(steps[at]):
            back()
    return (skies, steps)


def some_deed(chance, depth=0):
    """Return a change for a list; some of them fail."""
    word = chance.choice(["star", "star", "no star", "camera", "move", "move"] + ["all"] * (depth < 4))
    if word == "star":
        x = chance.randrange(5 if chance.random() < 0.1 else 4)
        return (word, (x, chance.randrange(4), chance.randrange(8, 10)))
    if word == "no star":
        return (word, chance.randrange(-1, 4))
    if word == "camera":
        limit = chance.randrange(0 if chance.random() < 0.1 else 1, 9)
        return (word, (chance.randrange(2), 0, chance.randrange(2), limit))
    if word == "move":
        return (word, (chance.randrange(4), chance.randrange(4), chance.randrange(5 if chance.random() < 0.1 else 4)))
    return (word, [some_deed(chance, depth + 1) for _ in range(chance.randrange(4))])


def done(desk, word, told):
    """Make a change at a desk by its own method."""
    if word == "all":
        return desk.change_all(told)
    return {"star": desk.put_star, "no star": desk.drop_star, "camera": desk.set_camera,
            "move": desk.move_sky}[word](told)


class ChangeTest(unittest.TestCase):

    def test_changes_do_what_skies_tell(self):
        desk = Desk(BEGIN)
        self.assertIs(desk.sky_now().same_as(BEGIN), True)
        for word, told, sky in [("star", (2, 2, 5), BEGIN.with_star((2, 2, 5))),
                                ("no star", 0, Sky(4, [(1, 0, 4), (2, 2, 5)], (1, 0, 0, 1))),
                                ("camera", (0, 0, 2, 3), Sky(4, [(1, 0, 4), (2, 2, 5)], (0, 0, 2, 3))),
                                ("move", (1, 0, 1), Sky(4, [(1, 1, 4), (3, 2, 5)], (0, 0, 2, 3)))]:
            self.assertIsNone(done(desk, word, told))
            self.assertEqual(told_of_sky(desk.sky_now()), told_of_sky(sky))
        self.assertEqual(history(desk)[1], [4, 0])
        self.assertEqual(told_of_sky(BEGIN), told_of_sky(Sky(4, [(0, 0, 9), (1, 0, 4)], (1, 0, 0, 1))))

    WRONG = [("star", (0, 0, 9), (StarTaken, {"star": (0, 0, 9)})), ("star", (4, 0, 9), (InvalidSky, {})),
             ("star", (0, 0), (InvalidSky, {})), ("star", (0, 0, 10), (InvalidSky, {})),
             ("no star", 2, (UnknownStar, {"number": 2})), ("no star", -1, (UnknownStar, {"number": -1})),
             ("camera", (1, 1, 0, 1), (InvalidSky, {})), ("camera", (1, 0, 0), (InvalidSky, {})),
             *[("move", told, (InvalidMotion, {"motion": told})) for told in no_attitudes(4)]]

    def test_calls_that_raise_are_no_changes(self):
        desk = Desk(BEGIN)
        desk.move_sky((1, 0, 0))
        desk.move_sky((3, 0, 0))
        desk.put_star((1, 1, 1))
        desk.undo()
        was = history(desk)
        for word, told, expected in self.WRONG:
            self.assertEqual(what_is_raised(done, desk, word, told), expected)
            self.assertEqual(history(desk), was)
            for deeds in ([(word, told)], [("move", (1, 1, 1)), (word, told), ("move", (9, 9, 9))],
                          [("all", [("move", (0, 0, 0)), (word, told)])],
                          [("camera", (0, 0, 0, 1)), ("all", []), ("all", [("all", [(word, told)])])]):
                if deeds[0][0] != "move":
                    self.assertEqual(what_is_raised(desk.change_all, deeds), expected)
                else:
                    self.assertIsInstance(what_is_raised(desk.change_all, deeds), tuple)
                self.assertEqual(history(desk), was)
        self.assertEqual(was[1], [2, 1])

    def test_too_many_stars(self):
        desk = Desk(Sky(4, [(x, y, 1) for x in range(4) for y in range(4)] + [(x, 0, 2) for x in range(4)],
                        (1, 0, 0, 1)))
        self.assertEqual(what_is_raised(desk.put_star, (3, 3, 9)), (InvalidSky, {}))
        self.assertEqual(what_is_raised(desk.put_star, (3, 3, 1)), (StarTaken, {"star": (3, 3, 1)}))

    def test_undo_and_redo(self):
        desk = Desk(BEGIN)
        self.assertEqual(what_is_raised(desk.undo), (NothingToUndo, {}))
        self.assertEqual(what_is_raised(desk.redo), (NothingToRedo, {}))
        desk.put_star((2, 2, 2))
        desk.put_star((3, 3, 3))
        self.assertIsNone(desk.undo())
        self.assertIsNone(desk.undo())
        self.assertEqual(what_is_raised(desk.undo), (NothingToUndo, {}))
        self.assertIs(desk.sky_now().same_as(BEGIN), True)
        self.assertIsNone(desk.redo())
        self.assertEqual(desk.sky_now().stars, (*BEGIN.stars, (2, 2, 2)))
        # A change discards what could have been restored; a change that is none, and a question, do not.
        self.assertEqual(what_is_raised(desk.put_star, (2, 2, 2)), (StarTaken, {"star": (2, 2, 2)}))
        desk.answer(DARK)
        desk.begin()
        desk.keep()
        desk.change_all([])
        desk.change_all([("all", [])])
        self.assertEqual(history(desk)[1], [1, 1])
        desk.move_sky((0, 0, 0))
        self.assertEqual(history(desk)[1], [2, 0])
        self.assertEqual(what_is_raised(desk.redo), (NothingToRedo, {}))

    def test_each_change_of_a_list_can_be_undone_by_itself(self):
        desk = Desk(BEGIN)
        deeds = [("star", (2, 2, 2)), ("all", [("camera", (0, 0, 0, 1)), ("all", [("move", (1, 0, 0))])]),
                 ("no star", 0)]
        self.assertIsNone(desk.change_all(deeds))
        self.assertEqual(history(desk)[1], [4, 0])
        desk.undo()
        self.assertEqual(len(desk.sky_now().stars), 3)
        desk.undo()
        desk.undo()
        self.assertEqual(desk.sky_now().camera, BEGIN.camera)
        self.assertEqual(deeds[1], ("all", [("camera", (0, 0, 0, 1)), ("all", [("move", (1, 0, 0))])]))

    def test_lists_that_are_nested_20_deep(self):
        deeds = [("move", (1, 0, 0))]
        for _ in range(19):
            deeds = [("move", (0, 1, 0)), ("all", deeds)]
        desk = Desk(BEGIN)
        desk.change_all(deeds)
        self.assertEqual(history(desk)[1], [20, 0])


class BlockTest(unittest.TestCase):

    def test_no_block(self):
        desk = Desk(BEGIN)
        self.assertEqual(what_is_raised(desk.keep), (NoBlock, {}))
        self.assertEqual(what_is_raised(desk.drop), (NoBlock, {}))
        self.assertIsNone(desk.begin())
        self.assertIsNone(desk.keep())
        self.assertEqual(what_is_raised(desk.drop), (NoBlock, {}))
        desk.begin()
        self.assertIsNone(desk.drop())
        self.assertEqual(what_is_raised(desk.keep), (NoBlock, {}))
        desk.change_all([("move", (0, 0, 1))])
        self.assertEqual(what_is_raised(desk.drop), (NoBlock, {}))

    def test_blocks_within_blocks(self):
        desk = Desk(BEGIN)
        desk.put_star((2, 2, 2))
        desk.put_star((3, 3, 3))
        desk.undo()
        was = history(desk)
        desk.begin()
        desk.undo()
        inner = history(desk)
        desk.begin()
        desk.redo()
        desk.redo()
        desk.move_sky((1, 1, 1))
        desk.drop()
        self.assertEqual(history(desk), inner)
        desk.begin()
        desk.move_sky((1, 1, 1))
        kept = history(desk)
        desk.keep()
        self.assertEqual(history(desk), kept)
        desk.drop()
        self.assertEqual(history(desk), was)
        self.assertEqual(what_is_raised(desk.keep), (NoBlock, {}))

    def test_undo_and_redo_within_a_block_that_is_dropped(self):
        desk = Desk(BEGIN)
        desk.put_star((2, 2, 2))
        desk.begin()
        desk.undo()
        self.assertEqual(history(desk)[1], [0, 1])
        desk.put_star((3, 3, 3))
        desk.drop()
        self.assertEqual(history(desk)[1], [1, 0])
        self.assertEqual(desk.sky_now().stars, (*BEGIN.stars, (2, 2, 2)))

    def test_answers_stay_if_a_block_is_dropped(self):
        desk = Desk(BEGIN)
        desk.begin()
        desk.put_star((2, 2, 2))
        desk.answer(DARK)
        desk.drop()
        self.assertEqual(desk.found, 1)
        desk.put_star((2, 2, 2))
        desk.answer(DARK)
        self.assertEqual(desk.found, 1)


class AnswerTest(unittest.TestCase):

    def test_answers_are_those_of_the_functions(self):
        desk, model = Desk(BEGIN), Model(BEGIN)
        for question in QUESTIONS + QUESTIONS:
            self.assertEqual(desk.answer(question), model.answer(question))
        self.assertEqual(desk.found, len(QUESTIONS))

    def test_each_answer_is_found_once(self):
        desk = Desk(BEGIN)
        self.assertEqual(desk.found, 0)
        told = [desk.answer(question) for question in QUESTIONS]
        self.assertEqual(desk.found, 6)
        desk.move_sky((1, 2, 3))
        desk.answer(DARK)
        self.assertEqual(desk.found, 7)
        desk.undo()
        self.assertEqual([desk.answer(question) for question in QUESTIONS], told)
        desk.redo()
        desk.answer(DARK)
        self.assertEqual(desk.found, 7)
        # Another way to an equal sky.
        desk.move_sky((0, 0, 0))
        desk.set_camera((1, 0, 0, 1))
        desk.answer(DARK)
        self.assertEqual(desk.found, 7)
        desk.set_camera((1, 0, 0, 2))
        desk.answer(DARK)
        self.assertEqual(desk.found, 8)

    def test_questions_that_raise_are_not_counted(self):
        desk = Desk(BEGIN)
        for sighting in [((0, 0, 10),), ((1, 0, 9), (0, 0, 9)), ((2, 0, 9),)]:
            self.assertEqual(what_is_raised(desk.answer, ("possible", sighting, 0, 0)), (InvalidSighting, {}))
        self.assertEqual(desk.found, 0)
        desk.answer(DARK)
        bright = ("possible", ((0, 0, 1),), 0, 0)
        desk.answer(bright)
        desk.set_camera((1, 0, 0, 2))
        self.assertEqual(what_is_raised(desk.answer, bright), (InvalidSighting, {}))
        self.assertEqual(desk.found, 2)

    def test_changing_what_was_told_changes_no_desk(self):
        desk = Desk(BEGIN)
        for question in (DARK, ("still",)):
            was = list(desk.answer(question))
            for _ in range(2):
                desk.answer(question).append((9, 9, 9))
                desk.answer(question).clear()
            self.assertEqual(desk.answer(question), was)
        self.assertEqual(desk.found, 2)

    def test_changing_what_was_given_changes_no_desk(self):
        stars = [(0, 0, 9), (1, 0, 4)]
        desk = Desk(Sky(4, stars, (1, 0, 0, 1)))
        stars.append((3, 3, 3))
        inner = [("move", (1, 0, 0))]
        deeds = [("all", inner), ("star", (2, 2, 2))]
        desk.change_all(deeds)
        was = history(desk)
        inner.clear()
        deeds.clear()
        self.assertEqual(history(desk), was)


class ModelTest(unittest.TestCase):

    def step(self, chance, desk, model):
        """Do one step at a desk and at its model, and compare them."""
        roll = chance.random()
        if roll < 0.4:
            deed = some_deed(chance)
            told = [what_is_raised(done, desk, *deed), what_is_raised(model.change, *deed)]
        elif roll < 0.5:
            question = chance.choice(QUESTIONS)
            told = [what_is_raised(desk.answer, question), what_is_raised(model.answer, question)]
            if told == [None, None]:
                self.assertEqual(desk.answer(question), model.answer(question))
        else:
            word = chance.choice(["undo", "undo", "redo", "redo", "begin", "keep", "drop"])
            told = [what_is_raised(getattr(desk, word)), what_is_raised(getattr(model, word))]
        self.assertEqual(told[0], told[1])
        self.assertEqual(told_of_sky(desk.sky_now()), told_of_sky(model.sky))
        self.assertEqual(desk.found, len(model.known))

    def test_long_drawn_sequences(self):
        for seed in range(12):
            chance = Random(seed)
            desk, model = Desk(BEGIN), Model(BEGIN)
            for number in range(250):
                self.step(chance, desk, model)
                if number % 25 == 0:
                    skies = [model.sky, *model.done[::-1], *model.undone[::-1]]
                    self.assertEqual(history(desk), ([told_of_sky(sky) for sky in skies],
                                                     [len(model.done), len(model.undone)]))

    def test_very_many_changes(self):
        desk = Desk(BEGIN)
        for number in range(3000):
            desk.begin()
            desk.move_sky((number % 4, 0, 1))
        self.assertEqual(history(desk)[1], [3000, 0])
        for _ in range(3000):
            desk.drop()
        self.assertEqual(history(desk)[1], [0, 0])


if __name__ == "__main__":
    unittest.main()
