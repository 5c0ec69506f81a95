"""How many spots are enough: links at once, covers, and sightings that two attitudes share."""

from starward.attitudes import attitudes, sure_among
from starward.bits import bits_of, least_part, most_held, union_of
from starward.confuse import both_lacks, common_spot, couples, link_table, shown_at
from starward.links import Links
from starward.matching import is_ascending, least_lot, matching, partners, with_most
from starward.pairs import both_ways, far_behind, far_rows, holds_for_all

COVER = "cover"


def most_links(sky, one, other):
    """Return an ascending list of as many links at once as there can be. Raise InvalidAttitude."""
    shown, shown_other = shown_at(sky, one, other)
    return matching(link_table(sky, shown, shown_other), list(shown), [])


def least_cover(sky, one, other):
    """Return a least cover, a tuple of two ascending lists. Raise InvalidAttitude."""
    shown, shown_other = shown_at(sky, one, other)
    return _cover(link_table(sky, shown, shown_other), list(shown))


def _cover(table, rows):
    """Return a least cover of the links of these rows."""
    # It has as many stars as there are links at once: the rows less what the lot lacks.
    lot = least_lot(table, rows)
    return ([row for row in rows if row not in lot], partners(table, lot))


def check_cover(sky, one, other, cover):
    """Return True if the tuple of two lists is a cover, otherwise False. Raise InvalidAttitude."""
    shown, shown_other = shown_at(sky, one, other)
    return _is_cover(link_table(sky, shown, shown_other), list(shown), list(shown_other), cover)


def _is_cover(table, seen, seen_other, cover):
    """Return True if the tuple of two lists is a cover of what is seen at two attitudes, otherwise False."""
    first, second = cover
    if not (_is_lot(first, seen) and _is_lot(second, seen_other)):
        return False
    return all([column in second for row in seen if row not in first for column in table[row]])


def _is_lot(told, numbers):
    """Return True if the list is ascending, each number once, and has none but these, otherwise False."""
    return not told or (is_ascending(told) and all([number in numbers for number in told]))


def most_shared(sky, one, other, missing, false):
    """Return how many spots the greatest shared sighting has, or None if there is none. Raise InvalidAttitude."""
    shown, shown_other = shown_at(sky, one, other)
    return _most_shared(sky, shown, shown_other, missing, false)


def _most_shared(sky, shown, shown_other, missing, false):
    """Return how many spots the greatest sighting shared by two attitudes has, or None if there is none."""
    if max(both_lacks(sky, shown, shown_other)) > missing + false:
        return None
    first, second = _cover(link_table(sky, shown, shown_other), list(shown))
    return _shared_spots(len(first) + len(second), false, shown, shown_other)


def _shared_spots(links, false, shown, shown_other):
    """Return how many spots a shared sighting has at most if there are at most so many links at once."""
    return false + min(links + false, len(shown), len(shown_other))


def shared_sighting(sky, one, other, missing, false):
    """Return a greatest shared sighting, or None if there is none. Raise InvalidAttitude."""
    if most_shared(sky, one, other, missing, false) is None:
        return None
    shown, shown_other = shown_at(sky, one, other)
    # Couples reach as many sure stars as can be; with more links they keep them.
    links = with_most(link_table(sky, shown, shown_other), couples(sky, one, other))
    own = _own_spots(sky, shown, [first for first, _ in links], false)
    own_other = _own_spots(sky, shown_other, [second for _, second in links], false)
    spots = [common_spot(sky, shown[first], shown_other[second]) for first, second in links]
    # What is left of the false ones for both attitudes: spots without a star, at any place.
    spots.extend([(0, 0, sky.limit)] * (false - max(len(own), len(own_other))))
    return tuple(sorted([*spots, *own, *own_other]))


def _own_spots(sky, shown, reached, most):
    """Return at most so many spots, each one for a star that is not reached, sure ones first."""
    sure = sure_among(sky, shown)
    left = [number for number in shown if number not in reached]
    ordered = [*[number for number in left if number in sure], *[number for number in left if number not in sure]]
    return [common_spot(sky, shown[number], shown[number]) for number in ordered[:most]]


def _hardest(sky, missing, false, slack):
    """Return the tuple of the most spots that two far attitudes share and the first pair that does, or (None, None)."""
    links = Links(sky)
    greatest, hardest = None, None
    counts = [len(shown) for shown in links.shown]
    for place, shown in enumerate(links.shown):
        for other in far_behind(sky.side, place, slack):
            # However many links there are, no more spots are shared than the stars that are seen allow.
            if greatest is not None and false + min(counts[place], counts[other // 4]) <= greatest:
                continue
            if links.are_alike_enough(place, other, missing + false):
                many = most_held(links.table(place, other, list(shown)))
                shared = _shared_spots(many, false, shown, links.shown[other // 4])
                if greatest is None or shared > greatest:
                    greatest, hardest = shared, (4 * place, other)
    if hardest is None:
        return (None, None)
    every = attitudes(sky)
    return (greatest, (every[hardest[0]], every[hardest[1]]))


def enough_spots(sky, missing, false, slack):
    """Return the least number of spots that no sighting shared by two far attitudes has."""
    greatest, _ = _hardest(sky, missing, false, slack)
    return 0 if greatest is None else greatest + 1


def hardest_pair(sky, missing, false, slack):
    """Return the first pair of far attitudes with the greatest shared sighting, or None if no two share any."""
    _, hardest = _hardest(sky, missing, false, slack)
    return hardest


def enough_paper(sky, missing, false, slack):
    """Return a paper for the enough spots: a dict from all far pairs to lots and covers."""
    entries = Entries(sky, missing + false)
    paper = {}
    for one, others, told in far_rows(sky, slack, entries.of_place):
        for other, (word, first, second) in zip(others, told):
            paper[(one, other)] = (word, [*first], [*second]) if word == COVER else (word, first, [*second])
    return paper


class Entries:
    """What a paper of enough has for two attitudes: a lot that lacks more than a bound, otherwise a least cover."""

    def __init__(self, sky, bound):
        self._links = Links(sky)
        self._bound = bound
        self._lots = {}

    def of_place(self, place, others):
        """Return the list of the entries for the attitude at the place with the quarter 0 and each of the others."""
        seen = list(self._links.shown[place])
        tables = [self._links.tables(place, quarter, seen) for quarter in range(4)]
        covers = {}
        entries = []
        for other in others:
            entry = self._lot(place, other)
            if entry is None:
                masks = tables[other & 3][other >> 2]
                if masks not in covers:
                    covers[masks] = _cover_of(seen, masks)
                entry = covers[masks]
            entries.append(entry)
        return entries

    def _lot(self, place, other):
        """Return the entry with a lot that lacks more than the bound, or None if there is none."""
        for side, (here, there) in enumerate(both_ways(place, other)):
            if len(self._links.sure[here]) > self._bound:
                lack, lot = self._lots_of(here)[there]
                if lack > self._bound:
                    return ("lot", side, lot)
        return None

    def _lots_of(self, place):
        """Return tuples of the lack of the attitude at the place and its least lot, for all attitudes."""
        if place not in self._lots:
            self._lots[place] = self._links.lot_row(place, self._links.sure[place])
        return self._lots[place]


def _cover_of(seen, masks):
    """Return an entry of a paper with a least cover of the links of the stars that are seen with these partners."""
    _, lot = least_part(masks)
    return (COVER, [star for row, star in enumerate(seen) if row not in lot],
            bits_of(union_of([masks[row] for row in lot])))


def shows_enough(sky, missing, false, slack, number, paper):
    """Return True if the dict is a paper of enough for the number, otherwise False."""
    links = Links(sky)
    return holds_for_all(sky, slack, paper, lambda place, other, entry: _is_right(
        links, both_ways(place, other), (missing, false), number, entry))


def _is_right(links, ways, bounds, number, entry):
    """Return True if the entry of a paper shows that two attitudes share no sighting of so many spots."""
    word, first, second = entry
    if word == COVER:
        place, other = ways[0]
        shown, shown_other = links.shown[place], links.shown[other // 4]
        return (_shared_spots(len(first) + len(second), bounds[1], shown, shown_other) < number
                and _is_lot(first, list(shown)) and _is_lot(second, list(shown_other))
                and not _uncovered(links, place, other, first) & ~sum([1 << star for star in second]))
    if word == "lot" and first in (0, 1):
        place, other = ways[first]
        return links.lacks_more(place, other, second, bounds[0] + bounds[1])
    return False


def _uncovered(links, place, other, first):
    """Return the stars that are linked with those seen from the place that the list does not have, as bits."""
    return union_of(links.table(place, other, [star for star in links.shown[place] if star not in first]))
