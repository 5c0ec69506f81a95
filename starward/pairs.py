"""Pairs of attitudes of a sky: which ones are far, with places and attitudes told by their numbers.

A place has its number among all places, ascending, and an attitude its number among all attitudes: four times that
of its place, and its quarter. Turning both of two attitudes alike where they stand turns all offsets alike: the same
stars are seen, sure and linked. So it is enough to look at pairs whose first attitude has the quarter 0.
"""

from starward.attitudes import appearances, attitudes
from starward.confuse import both_lacks

BACK_TURNS = (0, 3, 2, 1)


def near_places(side, place, slack):
    """Return a dict of True from the numbers of the places that are at most the slack apart from a place."""
    x, y = divmod(place, side)
    steps = range(-min(slack, side // 2), min(slack, side // 2) + 1)
    return {(x + right) % side * side + (y + up) % side: True for right in steps for up in steps}


def far_numbers(side, place, slack):
    """Return the ascending list of the attitudes that are far from that with the quarter 0 at the place."""
    near = near_places(side, place, slack)
    return [number for number in range(4 * side * side) if number & 3 or number >> 2 not in near]


def far_behind(side, place, slack):
    """Return those of `far_numbers` that are greater than the attitude with the quarter 0 at the place."""
    near = near_places(side, place, slack)
    return [number for number in range(4 * place + 1, 4 * side * side) if number & 3 or number >> 2 not in near]


def count_far(side, slack):
    """Return how many pairs of far attitudes there are, the first one less than the second one."""
    many = 4 * side * side
    return many * (many - len(near_places(side, 0, slack))) // 2


def turned_numbers(side, quarter):
    """Return the list of the numbers of all attitudes, each with its quarter less by this one."""
    return [4 * place + (own - quarter) % 4 for place in range(side * side) for own in range(4)]


def both_ways(place, other):
    """Return two tuples (place, attitude): for the first attitude by the second one, and for the second by the first.

    They are told by numbers; both are turned so that the first one of the tuple has the quarter 0.
    """
    return ((place, other), (other >> 2, 4 * place + BACK_TURNS[other & 3]))


def far_rows(sky, slack, told_of):
    """Return tuples of an attitude, the list of the greater attitudes that are far from it, and what is told of each.

    `told_of` is a function of a place and an ascending list of numbers of attitudes that are far from that with the
    quarter 0 at the place; it returns a list of what is told of each. That holds for pairs that are turned alike, too.
    """
    side, every = sky.side, attitudes(sky)
    turns = [turned_numbers(side, quarter) for quarter in range(4)]
    rows = []
    for place in range(side * side):
        far = far_behind(side, place, slack)
        row = [None] * len(every)
        for number, each in zip(far, told_of(place, far)):
            row[number] = each
        for quarter in range(4):
            first = 4 * place + quarter
            told = [row[number] for number in turns[quarter][first + 1:]]
            others = [other for other, each in zip(every[first + 1:], told) if each is not None]
            rows.append((every[first], others, [each for each in told if each is not None]))
    return rows


def holds_for_all(sky, slack, paper, is_right):
    """Return True if the keys of a dict are just the pairs of far attitudes, ascending, and all its values are right.

    `is_right` is a function of a place, the number of an attitude that is far from that with the quarter 0 there, and
    a value. What is right for a pair is right for pairs that are turned alike, too.
    """
    if len(paper) != count_far(sky.side, slack):
        return False
    numbers = {attitude: number for number, attitude in enumerate(attitudes(sky))}
    known = [{} for _ in range(sky.side * sky.side)]
    for (one, other), told in paper.items():
        first, second = numbers.get(one), numbers.get(other)
        if first is None or second is None or first >= second:
            return False
        place, turned = first >> 2, second - second % 4 + (second - first) % 4
        right = known[place]
        if right.get(turned) != told:
            if turned not in right and not turned & 3 and turned >> 2 in near_places(sky.side, place, slack):
                return False
            if not is_right(place, turned, told):
                return False
            right[turned] = told
    return True


def unturned(one, other):
    """Return the two attitudes, both turned alike where they stand, so that the first one has the quarter 0."""
    return ((one[0], one[1], 0), (other[0], other[1], (other[2] - one[2]) % 4))


class Lacks:
    """The lacks of attitudes of a sky by one another, each found once. Nothing is checked."""

    def __init__(self, sky):
        self._sky = sky
        self._shown = {}
        self._known = {}

    def both(self, one, other):
        """Return the tuple of the lack of the first attitude by the second one and that of the second by the first."""
        if one > other:
            lack_of_other, lack_of_one = self.both(other, one)
            return (lack_of_one, lack_of_other)
        key = unturned(one, other)
        if key not in self._known:
            self._known[key] = both_lacks(self._sky, self._shown_at(key[0]), self._shown_at(key[1]))
        return self._known[key]

    def _shown_at(self, attitude):
        """Return what is shown at the attitude."""
        if attitude not in self._shown:
            self._shown[attitude] = appearances(self._sky, attitude)
        return self._shown[attitude]
