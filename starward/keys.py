"""Votes of pairs of spots, and an index of pairs of stars that finds attitudes by them."""

from starward.attitudes import attitudes, check_attitude, fits
from starward.errors import InvalidSighting
from starward.places import quarter_turned
from starward.sightings import Frame, is_within
from starward.sky import check_sighting, is_spot


def votes_at(sky, attitude, sighting):
    """Return the number of the votes. Raise InvalidAttitude, then InvalidSighting."""
    check_attitude(sky, attitude)
    check_sighting(sky, sighting)
    return _votes_in(Frame(sky, sighting), attitude)


def _votes_in(frame, attitude):
    """Return the number of the votes of the attitude for the sighting of a frame."""
    table, _ = frame.table_and_sure(attitude)
    stars = [0 for _ in frame.spots()]
    for row in table:
        for spot in row:
            stars[spot] += 1
    fitting = len([many for many in stars if many])
    # Two spots do not vote only if both fit just one star, the same one.
    alone = [len([spot for spot in row if stars[spot] == 1]) for row in table]
    return _pairs_of(fitting) - sum([_pairs_of(many) for many in alone])


def _pairs_of(many):
    """Return how many pairs there are of so many."""
    return many * (many - 1) // 2


def votes_needed(spots, false):
    """Return the votes needed for so many spots."""
    return _pairs_of(max(0, spots - false))


class Index:
    """The differences of all pairs of stars of a sky."""

    def __init__(self, sky):
        self._sky = sky
        # From the place of the second star less that of the first one to the numbers of both.
        self._pairs = {}
        for first, one in enumerate(sky.stars):
            for second, other in enumerate(sky.stars):
                if first != second:
                    difference = ((other[0] - one[0]) % sky.side, (other[1] - one[1]) % sky.side)
                    self._pairs.setdefault(difference, []).append((first, second))

    @property
    def sky(self):
        """The sky."""
        return self._sky

    def finds(self, first, second):
        """Return the ascending list of the finds of two spots. Raise InvalidSighting."""
        _check_spots(self._sky, first, second)
        found = []
        for quarter in range(4):
            for difference in self._differences(first, second, quarter):
                for one, other in self._pairs.get(difference, []):
                    if self._is_near(one, first) and self._is_near(other, second):
                        found.append((one, other, quarter))
        return sorted(found)

    def _differences(self, first, second, quarter):
        """Return the differences, each once, of the places of stars that two spots can fit with a quarter."""
        side, blur = self._sky.side, 2 * self._sky.blur
        found = {}
        for right in range(-blur, blur + 1):
            for up in range(-blur, blur + 1):
                x, y = quarter_turned(quarter, (second[0] - first[0] + right, second[1] - first[1] + up))
                found[(x % side, y % side)] = True
        return list(found)

    def _is_near(self, number, spot):
        """Return True if the brightness of the star differs by at most the glare from that of the spot."""
        return abs(self._sky.stars[number][2] - spot[2]) <= self._sky.glare

    def attitudes_for(self, first, second):
        """Return the ascending list of the attitudes at which the spots fit two different stars, one each.

        Raise InvalidSighting.
        """
        found = {}
        for one, other, quarter in self.finds(first, second):
            for attitude in self._attitudes_at(one, first, quarter):
                if attitude not in found and fits(self._sky, attitude, other, second):
                    found[attitude] = True
        return sorted(found)

    def _attitudes_at(self, number, spot, quarter):
        """Return the list of the attitudes with this quarter at which the spot fits a star of its brightness."""
        side, blur = self._sky.side, self._sky.blur
        x, y, _ = self._sky.stars[number]
        steps = range(-blur, blur + 1)
        offsets = [quarter_turned(quarter, (spot[0] + right, spot[1] + up)) for right in steps for up in steps]
        return [((x - right) % side, (y - up) % side, quarter) for right, up in offsets]

    def votes(self, sighting):
        """Return a dict from all attitudes with at least one vote, ascending, to their votes. Raise InvalidSighting."""
        told = _all_votes(self._sky, sighting)
        return {attitude: many for attitude, many in told.items() if many}


def _check_spots(sky, first, second):
    """Raise InvalidSighting if one of the two tuples is no spot of the sky."""
    if not is_spot(sky, first) or not is_spot(sky, second):
        raise InvalidSighting("a spot breaks a rule")


def _all_votes(sky, sighting):
    """Return a dict from all attitudes, ascending, to their votes. Raise InvalidSighting."""
    check_sighting(sky, sighting)
    frame = Frame(sky, sighting)
    return {attitude: _votes_in(frame, attitude) for attitude in attitudes(sky)}


def candidates(sky, sighting, false):
    """Return the ascending list of the attitudes with at least the votes needed. Raise InvalidSighting."""
    least = votes_needed(len(sighting), false)
    return [attitude for attitude, many in _all_votes(sky, sighting).items() if many >= least]


def identify(sky, sighting, missing, false):
    """Return the ascending list of all attitudes that can be. Raise InvalidSighting."""
    found = candidates(sky, sighting, false)
    frame = Frame(sky, sighting)
    return [attitude for attitude in found if is_within(frame.need(attitude), missing, false)]
