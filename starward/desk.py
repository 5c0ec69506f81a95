"""A desk: a sky that is changed step by step, and answers that are found once."""

from starward.alike import still_motions
from starward.errors import NoBlock, NothingToRedo, NothingToUndo, SkyError
from starward.sightings import possible
from starward.sure import least_distance


class Desk:
    """A sky with its changes, those that were taken back, blocks of changes, and the answers found so far."""

    def __init__(self, sky):
        self._sky = sky
        # Chains (sky, the rest of the chain), so that a block remembers all at once; None where a chain ends.
        self._done = None
        self._undone = None
        self._blocks = []
        self._answers = {}

    @property
    def found(self):
        """How many answers have been found so far."""
        return len(self._answers)

    def sky_now(self):
        """Return the sky."""
        return self._sky

    def _change_to(self, sky):
        """Change the sky to another one."""
        self._done = (self._sky, self._done)
        self._undone = None
        self._sky = sky

    def put_star(self, star):
        """Put one star more into the sky. Raise StarTaken, then InvalidSky."""
        self._change_to(self._sky.with_star(star))

    def drop_star(self, number):
        """Take the star with the number out of the sky. Raise UnknownStar."""
        self._change_to(self._sky.without_star(number))

    def set_camera(self, camera):
        """Give the sky another camera. Raise InvalidSky."""
        self._change_to(self._sky.with_camera(camera))

    def move_sky(self, motion):
        """Move all stars. Raise InvalidMotion."""
        self._change_to(self._sky.moved(motion))

    def undo(self):
        """Take back the last change that has not been taken back. Raise NothingToUndo."""
        if self._done is None:
            raise NothingToUndo("no change can be taken back")
        self._undone = (self._sky, self._undone)
        self._sky, self._done = self._done

    def redo(self):
        """Restore the change that was taken back last. Raise NothingToRedo."""
        if self._undone is None:
            raise NothingToRedo("no change can be restored")
        self._done = (self._sky, self._done)
        self._sky, self._undone = self._undone

    def begin(self):
        """Begin a block of changes."""
        self._blocks.append((self._sky, self._done, self._undone))

    def keep(self):
        """End the block that was begun last; all stays as it is. Raise NoBlock."""
        self._ended_block()

    def drop(self):
        """End the block that was begun last; all is again as it was when it was begun. Raise NoBlock."""
        self._sky, self._done, self._undone = self._ended_block()

    def _ended_block(self):
        """End the block that was begun last and return what was when it was begun. Raise NoBlock."""
        if not self._blocks:
            raise NoBlock("no block has begun and not ended")
        return self._blocks.pop()

    def change_all(self, deeds):
        """Make the changes of the list, or none of them if one fails. Raise what the change that fails raises."""
        was = (self._sky, self._done, self._undone)
        try:
            for deed in deeds:
                self._make(deed)
        except SkyError:
            self._sky, self._done, self._undone = was
            raise

    def _make(self, deed):
        """Make one change. Raise what it raises."""
        word, told = deed
        if word == "star":
            self.put_star(told)
        elif word == "no star":
            self.drop_star(told)
        elif word == "camera":
            self.set_camera(told)
        elif word == "move":
            self.move_sky(told)
        else:
            self.change_all(told)

    def answer(self, question):
        """Return the answer to the question for the present sky. Raise what the function that finds it raises."""
        sky = self._sky
        key = (question, sky.side, sky.stars, sky.camera)
        if key not in self._answers:
            self._answers[key] = _answer(sky, question)
        kept = self._answers[key]
        return list(kept) if question[0] != "distance" else kept


def _answer(sky, question):
    """Return the answer to a question. Raise what the function that finds it raises."""
    if question[0] == "possible":
        _, sighting, missing, false = question
        return possible(sky, sighting, missing, false)
    if question[0] == "distance":
        return least_distance(sky, question[1])
    return still_motions(sky)
