"""Which stars are linked, for all pairs of attitudes of a sky at once. Lots of stars are integers, bit by bit.

Places and attitudes are told by their numbers, as in `starward/pairs.py`; the first attitude of two has the quarter 0
where only its place is told.
"""

from starward.attitudes import sure_among
from starward.bits import bits_of, least_part, most_held, union_of
from starward.matching import is_ascending
from starward.pairs import BACK_TURNS, both_ways
from starward.places import quarter_turned


class Links:
    """The links between all attitudes of a sky. Nothing is checked."""

    def __init__(self, sky):
        self._sky = sky
        self._side = sky.side
        self._bound = sky.reach + sky.blur
        # Dicts from the stars that can be seen from each place to (dx, dy, brightness), and lists of the sure ones.
        self.shown = _shown_everywhere(sky)
        self.sure = [sure_among(sky, shown) for shown in self.shown]
        self._partners = {}
        self._lacks = {}

    def partners(self, look):
        """Return a list with the stars that are linked with one of this offset and brightness, place by place."""
        if look not in self._partners:
            self._partners[look] = self._found_partners(look)
        return self._partners[look]

    def _found_partners(self, look):
        """Return what `partners` returns."""
        across, up, brightness = look
        blur, glare, bound, side = 2 * self._sky.blur, 2 * self._sky.glare, self._bound, self._side
        faintest = max(self._sky.limit - self._sky.glare, brightness - glare)
        columns = range(max(across - blur, -bound), min(across + blur, bound) + 1)
        lines = range(max(up - blur, -bound), min(up + blur, bound) + 1)
        found = [0] * (side * side)
        for number, (x, y, bright) in enumerate(self._sky.stars):
            if faintest <= bright <= brightness + glare:
                for dx in columns:
                    left = (x - dx) % side * side
                    for dy in lines:
                        found[left + (y - dy) % side] |= 1 << number
        return found

    def partners_at(self, place, quarter, star):
        """Return a list with the stars that are linked with a star seen from a place, for all places with a quarter."""
        dx, dy, brightness = self.shown[place][star]
        if quarter:
            dx, dy = quarter_turned(quarter, (dx, dy))
        return self.partners((dx, dy, brightness))

    def tables(self, place, quarter, stars):
        """Return a list of tuples: for all other places with a quarter the partners of stars seen from the place."""
        if not stars:
            return [()] * (self._side * self._side)
        lists = [self.partners_at(place, quarter, star) for star in stars]
        return list(zip(*lists))

    def table(self, place, other, stars):
        """Return a list with the partners of stars seen from the place at the other attitude."""
        return [self.partners_at(place, other % 4, star)[other // 4] for star in stars]

    def judged(self, place, stars, judge):
        """Return what `judge` returns for the partners of stars seen from a place, for all attitudes in order.

        It is a function of a tuple of lots, asked once for equal tuples.
        """
        known = {}
        columns = []
        for quarter in range(4):
            tables = self.tables(place, quarter, stars)
            for masks in tables:
                if masks not in known:
                    known[masks] = judge(masks)
            columns.append([known[masks] for masks in tables])
        return [told for four in zip(*columns) for told in four]

    def lack_row(self, place, stars):
        """Return how many of the stars seen from a place cannot be linked at once, for all attitudes."""
        if not stars:
            return [0] * (4 * self._side * self._side)
        return self.judged(place, stars, lambda masks: len(stars) - most_held(masks))

    def lot_row(self, place, stars):
        """Return tuples of the lack of stars seen from a place and their least lot that lacks most, for all attitudes.

        The lots are not to be changed.
        """
        return self.judged(place, stars, lambda masks: _lack_and_lot(stars, masks))

    def lacks(self, place):
        """Return the lacks of the attitude at the place by all attitudes. The list is not to be changed."""
        if place not in self._lacks:
            self._lacks[place] = self.lack_row(place, self.sure[place])
        return self._lacks[place]

    def lacks_back(self, place):
        """Return the lacks of all attitudes by the attitude at the place."""
        first = 4 * place
        rows = [self.lacks(other) for other in range(self._side * self._side)]
        return [row[first + turn] for row in rows for turn in BACK_TURNS]

    def unlikeness(self, place):
        """Return the unlikeness of the attitude at the place and each attitude."""
        return [lack if lack > back else back for lack, back in zip(self.lacks(place), self.lacks_back(place))]

    def are_alike_enough(self, place, other, bound):
        """Return True if the unlikeness of the attitude at the place and the other one is at most the bound."""
        here, there = both_ways(place, other)
        return not (self.lack_is_above(here[0], here[1], bound) or self.lack_is_above(there[0], there[1], bound))

    def lack_is_above(self, place, other, bound):
        """Return True if the lack of the attitude at the place by the other one is above the bound."""
        # Where there are no more sure stars than that, no links have to be looked at.
        return len(self.sure[place]) > bound and self.lacks(place)[other] > bound

    def lacks_more(self, place, other, told, bound):
        """Return True if the list is a lot of sure stars of the place that lacks more than the bound by the other."""
        sure = self.sure[place]
        if not is_ascending(told) or not all([star in sure for star in told]):
            return False
        return len(told) - len(bits_of(union_of(self.table(place, other, told)))) > bound


def _lack_and_lot(stars, masks):
    """Return the tuple of the lack of stars with these partners and their least lot that lacks most."""
    lack, rows = least_part(masks)
    return (lack, [stars[row] for row in rows])


def _shown_everywhere(sky):
    """Return a list with, for each place, a dict from the stars that can be seen to (dx, dy, brightness)."""
    side, bound, faintest = sky.side, sky.reach + sky.blur, sky.limit - sky.glare
    shown = [{} for _ in range(side * side)]
    window = range(-bound, bound + 1)
    for number, (x, y, brightness) in enumerate(sky.stars):
        if brightness >= faintest:
            for dx in window:
                left = (x - dx) % side * side
                for dy in window:
                    shown[left + (y - dy) % side][number] = (dx, dy, brightness)
    return shown
