"""Sets of points of a grid that has no end, kept as integers, one bit for each point.

A point has as many parts as the grid has axes, from 0 to the side less 1. Its bit is the number whose digits, to the
base of the side, are its parts.
"""


class Grid:
    """A grid with a side and a number of axes."""

    def __init__(self, side, axes):
        self._side = side
        self._weights = [1]
        for _ in range(axes - 1):
            self._weights.insert(0, self._weights[0] * side)
        self.full = (1 << self._weights[0] * side) - 1
        # For each axis and each number, all points whose part along the axis is at least the number.
        self._high = [[self._at_least(weight, part) for part in range(side)] for weight in self._weights]

    def _at_least(self, weight, part):
        """Return all points whose part of this weight is at least a number."""
        period = self._side * weight
        ones = ((1 << period - part * weight) - 1) << part * weight
        # The same in each period.
        return ones * (self.full // ((1 << period) - 1))

    def moved(self, points, axis, steps):
        """Return the points moved by so many steps along an axis, around the grid."""
        forward = steps % self._side
        if forward == 0 or points == 0:
            return points
        weight, high = self._weights[axis], self._high[axis][forward]
        around = points >> (self._side - forward) * weight
        return (points << forward * weight) & high | around & (self.full ^ high)

    def spread(self, points, axis, steps):
        """Return the points moved by each number of steps up to this one along an axis, backwards and forwards."""
        if steps == 0 or points == 0:
            return points
        wide = self.moved(points, axis, -steps)
        done, last = 0, min(2 * steps, self._side - 1)
        while done < last:
            more = min(done + 1, last - done)
            wide |= self.moved(wide, axis, more)
            done += more
        return wide
