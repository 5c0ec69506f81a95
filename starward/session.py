"""A session: a desk that obeys lines of words."""

from starward.desk import Desk
from starward.errors import (InvalidAttitude, InvalidMotion, InvalidSighting, InvalidSky, NoBlock, NothingToRedo,
                             NothingToUndo, StarTaken)
from starward.notation import DARK, format_attitude, format_sky, read_number, read_sighting
from starward.report import LOST, view

DONE = "ok"
NO_COMMAND = "error command"
GREATEST_BOUND = 20
GREATEST_SLACK = 9
MOST_DIGITS = 3


class Session:
    """A session whose desk begins with a sky."""

    def __init__(self, sky):
        self._desk = Desk(sky)

    def play(self, text):
        """Obey the lines of a text and return the list of the replies."""
        return [self.obey(line) for line in text.split("\n")]

    def obey(self, line):
        """Obey a line and return the reply."""
        try:
            return self._reply(line.split(" "))
        except InvalidSky:
            return "error sky"
        except StarTaken:
            return "error taken"
        except InvalidMotion:
            return "error motion"
        except InvalidAttitude:
            return "error attitude"
        except InvalidSighting:
            return "error sighting"
        except NothingToUndo:
            return "error undo"
        except NothingToRedo:
            return "error redo"
        except NoBlock:
            return "error block"

    def _reply(self, words):
        """Return the reply to a line of words. Raise what the desk raises."""
        if len(words) == 1:
            return self._reply_to_word(words[0])
        if words[0] == "possible":
            return self._possible(words[1:])
        if words[0] == "view" and len(words) == 2:
            return self._view(words[1])
        # What is left is a word or two and numbers.
        many = 2 if words[0] == "no" else 1
        numbers = _numbers(words[many:])
        if numbers is None:
            return NO_COMMAND
        return self._reply_to_numbers(" ".join(words[:many]), numbers)

    def _reply_to_word(self, word):
        """Return the reply to a line of one word."""
        if word == "sky":
            return format_sky(self._desk.sky_now()).replace("\n", "/")
        if word == "still":
            return _written(self._desk.answer(("still",)))
        if word == "undo":
            self._desk.undo()
        elif word == "redo":
            self._desk.redo()
        elif word == "begin":
            self._desk.begin()
        elif word == "keep":
            self._desk.keep()
        elif word == "drop":
            self._desk.drop()
        else:
            return NO_COMMAND
        return DONE

    def _reply_to_numbers(self, word, numbers):
        """Return the reply to a line of a word, or two, and numbers behind it."""
        form = (word, len(numbers))
        if form == ("distance", 1) and 0 <= numbers[0] <= GREATEST_SLACK:
            return str(self._desk.answer(("distance", numbers[0]))[0])
        if form == ("star", 3):
            self._desk.put_star(numbers)
        elif form == ("no star", 3):
            number = self._desk.sky_now().number_of(numbers)
            if number is None:
                return "error star"
            self._desk.drop_star(number)
        elif form == ("camera", 4):
            self._desk.set_camera(numbers)
        elif form == ("move", 3):
            self._desk.move_sky(numbers)
        else:
            return NO_COMMAND
        return DONE

    def _possible(self, words):
        """Return the reply to a question which attitudes can be."""
        bounds, spots = _numbers(words[:2]), words[2:]
        if bounds is None or not spots or not all([0 <= bound <= GREATEST_BOUND for bound in bounds]):
            return NO_COMMAND
        if spots != [DARK] and None in [_three_numbers(word) for word in spots]:
            return NO_COMMAND
        sighting = read_sighting(self._desk.sky_now(), " ".join(spots))
        found = self._desk.answer(("possible", sighting, bounds[0], bounds[1]))
        return _written(found) if found else LOST

    def _view(self, word):
        """Return the reply to a question what is seen at an attitude."""
        attitude = _three_numbers(word)
        if attitude is None:
            return NO_COMMAND
        return view(self._desk.sky_now(), attitude).replace("\n", "/")


def _numbers(words):
    """Return the tuple of the numbers that the words are, or None if one of them is none."""
    if not all([len(word.lstrip("-")) <= MOST_DIGITS for word in words]):
        return None
    numbers = tuple([read_number(word) for word in words])
    return None if None in numbers else numbers


def _three_numbers(word):
    """Return the tuple of three numbers with a colon between each two of them, or None if the word is none."""
    parts = word.split(":")
    return _numbers(parts) if len(parts) == 3 else None


def _written(told):
    """Return the written forms of attitudes, or of motions, with spaces between them."""
    return " ".join([format_attitude(each) for each in told])
