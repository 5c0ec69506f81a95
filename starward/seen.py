"""Showings: which sightings the stars at an attitude can give."""

from starward.attitudes import appearances, check_attitude, sure_among
from starward.errors import InvalidPaper, InvalidShowing
from starward.matching import is_matching
from starward.sightings import table_of
from starward.sky import MOST_SPOTS, is_spot


def look(sky, attitude, shifts, false):
    """Return the tuple of the sighting of a showing and the ascending list of the sure stars that it misses.

    Raise InvalidAttitude, UnknownStar for the least number that is none, then InvalidShowing.
    """
    check_attitude(sky, attitude)
    for number in sorted(shifts):
        sky.star_at(number)
    shown = appearances(sky, attitude)
    spots = [*_shown_spots(sky, shown, shifts), *false]
    if not all([is_spot(sky, spot) for spot in spots]):
        raise InvalidShowing("a spot breaks a rule")
    if len(spots) > MOST_SPOTS:
        raise InvalidShowing("too many spots")
    return (tuple(sorted(spots)), [number for number in sure_among(sky, shown) if number not in shifts])


def _shown_spots(sky, shown, shifts):
    """Return the spots by which stars are shown. Raise InvalidShowing."""
    spots = []
    for number, shift in shifts.items():
        if number not in shown:
            raise InvalidShowing("a star that cannot be seen is shown")
        if not _is_shift(sky, shift):
            raise InvalidShowing("a shift is out of its bounds")
        spots.append(tuple([part + more for part, more in zip(shown[number], shift)]))
    return spots


def _is_shift(sky, shift):
    """Return True if the three numbers are within their bounds, otherwise False."""
    x, y, brightness = shift
    return abs(x) <= sky.blur and abs(y) <= sky.blur and abs(brightness) <= sky.glare


def showing_of(sky, attitude, sighting, told):
    """Return the tuple of the shifts and the false spots of the showing with this matching.

    Raise InvalidAttitude, InvalidSighting, then InvalidPaper if the list is no matching of the attitude's table.
    """
    if not is_matching(table_of(sky, attitude, sighting), told):
        raise InvalidPaper("no matching of the table")
    shown = appearances(sky, attitude)
    shifts = {}
    for number, place in told:
        shifts[number] = tuple([part - own for part, own in zip(sighting[place], shown[number])])
    matched = [place for _, place in told]
    return (shifts, [spot for place, spot in enumerate(sighting) if place not in matched])
