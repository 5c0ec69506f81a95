"""Skies, views and needs as lines of text."""

from starward.attitudes import appearances, check_attitude
from starward.notation import format_attitude
from starward.sightings import is_within, needs

NO_STAR = "."
LOST = "lost"


def sky_map(sky):
    """Return the map of the sky: a line for each y, the greatest one first."""
    return _drawn(list(sky.stars), list(range(sky.side)))


def view(sky, attitude):
    """Return what the camera shows at the attitude: a line for each dy, the greatest one first.

    Raise InvalidAttitude.
    """
    check_attitude(sky, attitude)
    return _drawn(list(appearances(sky, attitude).values()), list(range(-sky.reach, sky.reach + 1)))


def _drawn(told, parts):
    """Return the drawing of stars (x, y, brightness), in order: x to the right and y upwards, over these parts."""
    # Stars are ascending, so the brightest one at a place is the last one and stays.
    brightest = {(star[0], star[1]): str(star[2]) for star in told}
    lines = ["".join([brightest.get((x, y), NO_STAR) for x in parts]) for y in parts]
    return "\n".join(reversed(lines))


def need_table(sky, sighting, missing, false):
    """Return a line for each attitude that can be, with what it needs. Raise InvalidSighting."""
    lines = []
    for attitude, needed in needs(sky, sighting).items():
        if is_within(needed, missing, false):
            lines.append(f"{format_attitude(attitude)} {needed[0]} {needed[1]}")
    return "\n".join(lines) if lines else LOST
