"""Pairs of attitudes: which ones are far, and what is the same for many of them."""

from starward.attitudes import appearances, are_far, attitudes
from starward.confuse import both_lacks


def far_pairs(sky, slack):
    """Return the ascending list of the pairs of far attitudes, the first one less than the second one."""
    every = attitudes(sky)
    return [(one, other) for place, one in enumerate(every) for other in every[place + 1:]
            if are_far(sky, one, other, slack)]


def unturned(one, other):
    """Return the two attitudes, both turned alike where they stand, so that the first one has the quarter 0.

    All offsets are then turned alike: the same stars are seen, sure and linked.
    """
    return ((one[0], one[1], 0), (other[0], other[1], (other[2] - one[2]) % 4))


class Lacks:
    """The lacks of attitudes of a sky by one another, each found once. Nothing is checked."""

    def __init__(self, sky):
        self._sky = sky
        self._shown = {}
        self._known = {}

    def both(self, one, other):
        """Return the tuple of the lack of the first attitude by the second one and that of the second by the first."""
        if one > other:
            lack_of_other, lack_of_one = self.both(other, one)
            return (lack_of_one, lack_of_other)
        key = unturned(one, other)
        if key not in self._known:
            self._known[key] = both_lacks(self._sky, self._shown_at(key[0]), self._shown_at(key[1]))
        return self._known[key]

    def _shown_at(self, attitude):
        """Return what is shown at the attitude."""
        if attitude not in self._shown:
            self._shown[attitude] = appearances(self._sky, attitude)
        return self._shown[attitude]
