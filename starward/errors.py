"""All errors of the program. Each kind of failure has a class of its own under SkyError.

No message tells a value: Python refuses to write out integers that are very long.
"""


class SkyError(ValueError):
    """The base class of all errors that the program raises."""


class InvalidSky(SkyError):
    """A sky breaks a rule. Made with a message."""


class InvalidSighting(SkyError):
    """A spot or a sighting is none of the sky. Made with a message."""


class InvalidPaper(SkyError):
    """What is told has not the form that is asked. Made with a message."""


class InvalidShowing(SkyError):
    """Shifts and false spots are no showing of an attitude. Made with a message."""


class NotPossible(SkyError):
    """An attitude cannot be at the two numbers. Made with a message."""


class NotWhole(SkyError):
    """A sky is not whole. Made with a message."""


class TooLarge(SkyError):
    """Something is larger than can be worked on. Made with a message."""


class NothingToUndo(SkyError):
    """No change can be taken back. Made with a message."""


class NothingToRedo(SkyError):
    """No change can be restored. Made with a message."""


class NoBlock(SkyError):
    """No block has begun and not ended. Made with a message."""


class InvalidAttitude(SkyError):
    """A tuple is no attitude of the sky. Made with the tuple."""

    def __init__(self, attitude):
        super().__init__("no attitude of the sky")
        self.attitude = attitude


class InvalidCommand(SkyError):
    """A tuple is no command for the sky. Made with the tuple."""

    def __init__(self, command):
        super().__init__("no command for the sky")
        self.command = command


class InvalidMotion(SkyError):
    """A tuple is no motion of the sky. Made with the tuple."""

    def __init__(self, motion):
        super().__init__("no motion of the sky")
        self.motion = motion


class UnknownStar(SkyError):
    """A number is that of no star. Made with the number."""

    def __init__(self, number):
        super().__init__("no star has this number")
        self.number = number


class StarTaken(SkyError):
    """The same star stands in the sky already. Made with the star."""

    def __init__(self, star):
        super().__init__("the sky has this star already")
        self.star = star


class InvalidNotation(SkyError):
    """A text is no written form. Made with the number of the first line that cannot stand."""

    def __init__(self, line):
        super().__init__("a line cannot stand where it stands")
        self.line = line
