"""Places that tell motions, and which attitudes motions are not told from while more places are looked at.

Places and attitudes are told by their numbers, as in `starward/pairs.py`; motions are written like attitudes, and have
their numbers, too. Lots of places are integers, bit by bit.
"""

from starward.bits import bits_of
from starward.grids import Grid
from starward.links import Links
from starward.pairs import near_places
from starward.places import quarter_turned


def telling_places_of_all(sky, bound):
    """Return a list with, for each motion, the places that tell it at the bound of unlikeness."""
    side = sky.side
    links = Links(sky)
    told = [0] * (4 * side * side)
    if max([len(sure) for sure in links.sure]) <= bound:
        return told
    for place in range(side * side):
        unlike = links.unlikeness(place)
        for quarter in range(4):
            x, y = quarter_turned(quarter, divmod(place, side))
            for other, number in enumerate(unlike[quarter::4]):
                if number > bound:
                    shift = (other // side - x) % side * side + (other - y) % side
                    told[4 * shift + quarter] |= 1 << place
    return told


class Untold:
    """Attitudes from which motions that are far are not told yet. Nothing is checked."""

    def __init__(self, sky, slack, bound):
        self._side = sky.side
        self._grid = Grid(sky.side, 2)
        self._told = telling_places_of_all(sky, bound)
        near = near_places(sky.side, 0, slack)
        far = [motion for motion in range(4 * sky.side * sky.side) if motion & 3 or motion >> 2 not in near]
        # For each quarter a dict from motions to the places from where they are not told with this quarter.
        self._left = [{motion: self._grid.full for motion in far} for _ in range(4)]

    def look_from(self, place):
        """Look where one is led to a place, a tuple, from (0, 0, 0); return True if more is told then.

        What is seen there hangs on the place alone, not on the quarter.
        """
        more = False
        lots = []
        for quarter, left in enumerate(self._left):
            right, up = quarter_turned(quarter, place)
            still = {}
            for motion, places in left.items():
                # Those who are led to a place that tells the motion stand as much aside from it.
                kept = places & ~self._grid.moved(self._grid.moved(self._told[motion], 0, -right), 1, -up)
                more = more or kept != places
                if kept:
                    still[motion] = kept
            lots.append(still)
        self._left = lots
        return more

    def is_empty(self):
        """Return True if all far motions are told from all attitudes."""
        return not any(self._left)

    def pairs(self):
        """Return the ascending list of the tuples of the numbers of two far attitudes that are not told apart."""
        many = 4 * self._side * self._side
        found = []
        for quarter, left in enumerate(self._left):
            for motion, places in left.items():
                for place in bits_of(places):
                    one, other = 4 * place + quarter, self._moved(place, quarter, motion)
                    if one < other:
                        found.append(one * many + other)
        return [divmod(both, many) for both in sorted(found)]

    def first(self):
        """Return the first tuple that `pairs` returns, or None if there is none."""
        ones = [4 * bits_of(places & -places)[0] + quarter
                for quarter, left in enumerate(self._left) for places in left.values()]
        if not ones:
            return None
        # From the least of all attitudes all motions lead to greater ones.
        place, quarter = divmod(min(ones), 4)
        return (min(ones), min([self._moved(place, quarter, motion)
                                for motion, places in self._left[quarter].items() if places >> place & 1]))

    def _moved(self, place, quarter, motion):
        """Return the number of the attitude to which the motion takes the one at a place with a quarter."""
        x, y = quarter_turned(motion & 3, divmod(place, self._side))
        shift = motion >> 2
        there = (x + shift // self._side) % self._side * self._side + (y + shift) % self._side
        return 4 * there + (quarter + motion) % 4
