"""Skies whose window is as wide as the side, and the stars that their motions keep."""

from starward.attitudes import check_motion
from starward.errors import NotWhole
from starward.pairs import near_places
from starward.places import moved_star, quarter_turned


def is_whole(sky):
    """Return True if the sky is whole, otherwise False."""
    return 2 * sky.reach + 1 == sky.side and sky.blur == 0 and sky.glare == 0


def _check_whole(sky):
    """Raise NotWhole if the sky is not whole."""
    if not is_whole(sky):
        raise NotWhole("the sky is not whole")


def _sure_numbers(sky):
    """Return a dict from the stars that are sure, ascending, to their numbers."""
    return {star: number for number, star in enumerate(sky.stars) if star[2] >= sky.limit}


def kept(sky, motion):
    """Return the ascending list of the tuples of a star that is kept and that to which it is taken.

    Raise NotWhole, then InvalidMotion.
    """
    _check_whole(sky)
    check_motion(sky, motion)
    numbers = _sure_numbers(sky)
    taken = [(number, numbers.get(moved_star(sky.side, star, motion))) for star, number in numbers.items()]
    return [(number, other) for number, other in taken if other is not None]


def kept_table(sky, quarter):
    """Return a list of lists of how many stars the motions with the quarter keep. Raise NotWhole."""
    _check_whole(sky)
    table = [[0] * sky.side for _ in range(sky.side)]
    stars = list(_sure_numbers(sky))
    for x, y, brightness in stars:
        left, up = quarter_turned(quarter, (x, y))
        # Each star of the same brightness is come to by one motion.
        for other_x, other_y, bright in stars:
            if bright == brightness:
                table[(other_x - left) % sky.side][(other_y - up) % sky.side] += 1
    return table


def whole_distance(sky, slack):
    """Return the distance, found by the tables alone. Raise NotWhole."""
    most = max([max(row) for quarter in range(1, 4) for row in kept_table(sky, quarter)])
    near = near_places(sky.side, 0, slack)
    for a, row in enumerate(kept_table(sky, 0)):
        for b, many in enumerate(row):
            if a * sky.side + b not in near:
                most = max(most, many)
    return len(_sure_numbers(sky)) - most


def distance_bound(sky):
    """Return the tuple of the bounds of the distance at the slack 0 and at any slack. Raise NotWhole."""
    _check_whole(sky)
    sure = [brightness for _, _, brightness in _sure_numbers(sky)]
    counts = [sure.count(brightness) for brightness in range(1, 10)]
    places = sky.side * sky.side
    return (len(sure) - _rounded_up(sum([k * (k - 1) for k in counts]), places - 1),
            len(sure) - _rounded_up(sum([k * k for k in counts]), places))


def _rounded_up(number, parts):
    """Return the number divided by the parts, rounded up."""
    return -(-number // parts)


def is_level(sky):
    """Return True if all shifts but (0, 0) keep equally many stars, otherwise False. Raise NotWhole."""
    counts = [many for row in kept_table(sky, 0) for many in row]
    return min(counts[1:]) == max(counts[1:])
