"""How many frames it takes to tell far attitudes apart if one command is done again and again.

Attitudes are told by their numbers, as in `starward/pairs.py`. Both lacks of two attitudes are kept in one integer,
so that they are summed at once: that of the first one, and that of the second one many times as great.
"""

from starward.attitudes import attitudes
from starward.links import Links
from starward.pairs import near_places, turned_numbers
from starward.places import composed

# Sums are kept so that one that is above its bound has reached HALF; OVER is HALF for both of them, SHIFT bits apart.
SHIFT = 16
HALF = 32768
OVER = 2147516416


class Rings:
    """The rings along which a command leads the attitudes of a sky, and both lacks of each two along them."""

    def __init__(self, sky, command):
        every = attitudes(sky)
        numbers = {attitude: number for number, attitude in enumerate(every)}
        following = [numbers[composed(sky.side, command, attitude)] for attitude in every]
        behind = list(range(len(every)))
        # Where each attitude is led, turn by turn; a command comes round behind as many times from each attitude.
        self._steps = [behind]
        while following[behind[0]] != 0:
            behind = [following[number] for number in behind]
            self._steps.append(behind)
        # For each attitude the least one in its ring, and behind how many turns that is led to it.
        self._first = {}
        for number in range(len(every)):
            if number not in self._first:
                for turn, led in enumerate(self._steps):
                    self._first[led[number]] = (number, turn)
        self._turns = [turned_numbers(sky.side, quarter) for quarter in range(4)]
        self._links = Links(sky)
        self._both = {}
        self._totals = {}

    def length(self):
        """Return behind how many times the command comes round."""
        return len(self._steps)

    def is_first(self, one):
        """Return True if the attitude is the least one in its ring."""
        return self._first[one][0] == one

    def lacks(self, one, frame):
        """Return a list with both lacks of an attitude and each one in a frame of the ring, one integer for both."""
        led = self._steps[frame]
        row, turned = self._both_of(led[one] // 4), self._turns[led[one] % 4]
        return [row[turned[other]] for other in led]

    def _both_of(self, place):
        """Return a list with both lacks of the attitude at the place and each attitude, one integer for both."""
        if place not in self._both:
            lacks, back = self._links.lacks(place), self._links.lacks_back(place)
            self._both[place] = [here + (there << SHIFT) for here, there in zip(lacks, back)]
        return self._both[place]

    def totals(self, one):
        """Return the sums of both lacks of an attitude and each one over the whole ring, one integer for both."""
        first, turn = self._first[one]
        if first not in self._totals:
            rows = [self.lacks(first, frame) for frame in range(len(self._steps))]
            self._totals[first] = [sum(lacks) for lacks in zip(*rows)]
        # Where two attitudes are led to, the sums are the same.
        row = self._totals[first]
        return [row[before] for before in self._steps[-turn]]

    def never_told(self, one, others):
        """Return the first of the others that never lacks and by which the attitude never does, or None."""
        left = others
        for led in self._steps:
            row, turned = self._links.lacks(led[one] // 4), self._turns[led[one] % 4]
            left = [other for other in left if not row[turned[led[other]]]]
        for other in left:
            if not any([self._links.lacks(led[other] // 4)[self._turns[led[other] % 4][led[one]]]
                        for led in self._steps]):
                return other
        return None


def slowest(sky, command, bound, slack):
    """Return the tuple of the most frames that far beginnings need, None if some are never told, and the first such.

    Nothing is checked.
    """
    rings = Rings(sky, command)
    every = attitudes(sky)
    lots = []
    for one, attitude in enumerate(every):
        near = near_places(sky.side, one // 4, slack)
        others = [other for other in range(one + 1, len(every)) if (other - one) & 3 or other >> 2 not in near]
        never = rings.never_told(one, others)
        if never is not None:
            return (None, (attitude, every[never]))
        lots.append((one, others))
    frames, (one, other) = _most_frames(rings, lots, bound)
    return (frames, (every[one], every[other]))


def _most_frames(rings, lots, bound):
    """Return the tuple of the most frames that pairs need until one sum is above the bound, and the first such pair.

    The pairs are tuples of an attitude and a list of others, none of which are never told.
    """
    start = (HALF - 1 - bound) * (1 + (1 << SHIFT))
    rounds = _most_rounds(rings, lots, bound)
    if rounds == 0:
        return _last_told(rings, [(one, [(other, start) for other in others]) for one, others in lots if others])
    # Only those that last the most rounds are the slowest.
    summed = []
    for one, others in lots:
        totals = rings.totals(one)
        told = [(other, start + rounds * totals[other]) for other in others
                if rounds * _greater(totals[other]) <= bound]
        if told:
            summed.append((one, told))
    frames, pair = _last_told(rings, summed)
    return (rounds * rings.length() + frames, pair)


def _most_rounds(rings, lots, bound):
    """Return the greatest number of whole rings behind which no sum of a pair is above the bound."""
    if bound == 0:
        return 0
    least = None
    for one, others in lots:
        # Each pair is led to one with the least attitude of a ring and a greater one.
        if others and rings.is_first(one):
            totals = rings.totals(one)
            here = min([_greater(totals[other]) for other in others])
            if least is None or here < least:
                least = here
    return bound // least


def _greater(both):
    """Return the greater one of two sums that are kept in one integer."""
    here, there = both & (1 << SHIFT) - 1, both >> SHIFT
    return here if here > there else there


def _last_told(rings, summed):
    """Return how many frames it takes until all pairs are told, at most a whole ring, and the first one told last."""
    left = summed
    for frame in range(rings.length()):
        kept = []
        for one, told in left:
            lacks = rings.lacks(one, frame)
            more = [(other, total) for other, before in told if not (total := before + lacks[other]) & OVER]
            if more:
                kept.append((one, more))
        if not kept:
            break
        left = kept
    one, told = left[0]
    return (frame + 1, (one, told[0][0]))
