"""Worlds: what truly happens to a camera, turn by turn and look by look."""

from starward.attitudes import check_attitude, check_command
from starward.errors import TooLarge
from starward.places import composed
from starward.seen import look

MOST_EVENTS = 60


class World:
    """A sky, an attitude, and a log of all that was done."""

    def __init__(self, sky, attitude):
        check_attitude(sky, attitude)
        self._sky = sky
        self._course = [attitude]
        self._slips = []
        self._log = []
        self._errors = []

    def sky_now(self):
        """Return the sky."""
        return self._sky

    def attitude_now(self):
        """Return the present attitude."""
        return self._course[-1]

    def turn(self, command, slip):
        """Do the command with this slip and return the attitude behind it. Raise InvalidCommand, then TooLarge."""
        check_command(self._sky, command)
        self._check_room()
        done = (command[0] + slip[0], command[1] + slip[1], command[2])
        self._course.append(composed(self._sky.side, done, self._course[-1]))
        self._slips.append(slip)
        self._log.append(("turn", command))
        return self._course[-1]

    def look(self, shifts, false):
        """Look with this showing and return the sighting. Raise UnknownStar, InvalidShowing, then TooLarge."""
        sighting, missed = look(self._sky, self._course[-1], shifts, false)
        self._check_room()
        self._log.append(("look", sighting))
        self._errors.append((len(missed), len(false)))
        return sighting

    def _check_room(self):
        """Raise TooLarge if the log can have no further event."""
        if len(self._log) >= MOST_EVENTS:
            raise TooLarge("the log is full")

    def log(self):
        """Return the log."""
        return list(self._log)

    def course(self):
        """Return the list of the attitudes of the world, at the beginning and behind each turn."""
        return list(self._course)

    def greatest_slip(self):
        """Return the greatest part of the slips done, without their signs; 0 if there was no turn."""
        return max([max(abs(x), abs(y)) for x, y in self._slips], default=0)

    def errors(self):
        """Return the list of the tuples of how many stars were missed and spots false, one for each look."""
        return list(self._errors)
