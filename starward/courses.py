"""Lots of pairs of attitudes, and where commands with slips lead them.

A lot of pairs is a dict from kinds, tuples (quarter of the first attitude, how much more that of the second one is),
to lists: for each x of the first one an integer with a bit for each (y of the first one, x and y of the second one).
Pairs come in both orders; so where the second quarter is 3 more, the other order, with 1 more, is enough.
"""

from starward.bits import bits_of
from starward.grids import Grid
from starward.links import Links
from starward.pairs import near_places
from starward.places import quarter_turned

KINDS = ((0, 0), (0, 1), (0, 2), (1, 0), (1, 1), (1, 2), (2, 0), (2, 1), (2, 2), (3, 0), (3, 1), (3, 2))


class Courses:
    """The pairs of attitudes of a sky that are confusable, and pair courses with slips among them."""

    def __init__(self, sky, slip, bound):
        self._side = sky.side
        self._slip = slip
        self._grid = Grid(sky.side, 3)
        links = Links(sky)
        alike = [[number <= bound for number in links.unlikeness(place)] for place in range(sky.side * sky.side)]
        self._confusable = [self._lists_of([row[more::4] for row in alike]) for more in (0, 1, 2)]

    def _lists_of(self, rows):
        """Return the lists of the pairs that are told by a row of truths for each place of the first one."""
        places = self._side * self._side
        found = [0] * self._side
        for place, row in enumerate(rows):
            x, y = divmod(place, self._side)
            found[x] |= sum([1 << other for other, is_in in enumerate(row) if is_in]) << y * places
        return found

    def confusable(self):
        """Return the lot of all pairs that are confusable."""
        return {(quarter, more): self._confusable[more] for quarter, more in KINDS}

    def only(self, pair):
        """Return the lot of one pair, in the order in which it stands; its second quarter is not 3 more."""
        (x, y, quarter), (other_x, other_y, other_quarter) = pair
        lists = [0] * self._side
        lists[x] = 1 << (y * self._side + other_x) * self._side + other_y
        return {(quarter, (other_quarter - quarter) % 4): lists}

    def far(self, lot, slack):
        """Return the lot of those pairs that are far."""
        places = range(self._side * self._side)
        far = []
        for place in places:
            near = near_places(self._side, place, slack)
            far.append([other not in near for other in places])
        lists = self._lists_of(far)
        return {(quarter, more): told if more else _in_both(told, lists) for (quarter, more), told in lot.items()}

    def behind(self, lot, command):
        """Return the lot of the confusable pairs to which a command leads from some of the lot."""
        found = {}
        for (quarter, more), lists in lot.items():
            steps = (command[0], command[1])
            led = self._led(lists, quarter_turned(quarter, steps), quarter_turned(quarter + more, steps))
            found[((quarter + command[2]) % 4, more)] = _in_both(led, self._confusable[more])
        return found

    def before(self, lot, command, within):
        """Return the lot of those pairs of another lot from which a command leads to some of the lot."""
        found = {}
        for (turned, more), lists in lot.items():
            quarter = (turned - command[2]) % 4
            steps = (-command[0], -command[1])
            led = self._led(lists, quarter_turned(quarter, steps), quarter_turned(quarter + more, steps))
            found[(quarter, more)] = _in_both(led, within[(quarter, more)])
        return found

    def _led(self, lists, first, second):
        """Return the lists of the pairs moved by these steps, each attitude with each slip."""
        grid, slip = self._grid, self._slip
        wide = [0] * self._side
        for x, points in enumerate(lists):
            if points:
                for axis, steps in enumerate((first[1], second[0], second[1])):
                    points = grid.spread(grid.moved(points, axis, steps), axis, slip)
                for there in range(x + first[0] - slip, x + first[0] + slip + 1):
                    wide[there % self._side] |= points
        return wide

    def some(self, lot):
        """Return some pair of the lot, or None if it is empty."""
        for (quarter, more), lists in lot.items():
            for x, points in enumerate(lists):
                if points:
                    return self._pair(quarter, more, x, bits_of(points & -points)[0])
        return None

    def numbers(self, lot):
        """Return the ascending list of tuples of the numbers of two attitudes of the lot, the greater one behind.

        The lot has both orders of each pair. Attitudes have their numbers as in `starward/pairs.py`.
        """
        places = self._side * self._side
        many = 4 * places
        found = []
        for (quarter, more), lists in lot.items():
            for x, points in enumerate(lists):
                for point in bits_of(points):
                    y, place = divmod(point, places)
                    one, other = 4 * (x * self._side + y) + quarter, 4 * place + (quarter + more) % 4
                    if one <= other:
                        found.append(one * many + other)
                    elif more == 1:
                        # The other order would be of a kind that is left out.
                        found.append(other * many + one)
        return [divmod(both, many) for both in sorted(found)]

    def _pair(self, quarter, more, x, point):
        """Return the pair with this kind, this x of the first attitude and this bit."""
        y, place = divmod(point, self._side * self._side)
        other_x, other_y = divmod(place, self._side)
        return ((x, y, quarter), (other_x, other_y, (quarter + more) % 4))


def _in_both(lists, others):
    """Return the lists of the pairs that are in both."""
    return [points & more for points, more in zip(lists, others)]


def in_both(lot, other):
    """Return the lot of the pairs that are in both lots."""
    return {kind: _in_both(lists, other[kind]) for kind, lists in lot.items() if kind in other}
