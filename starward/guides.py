"""Guides: a few stars by which an attitude is looked at, and which of them are enough."""

from itertools import combinations

from starward.attitudes import attitudes, check_attitude, sure_among
from starward.bits import most_held
from starward.confuse import common_spot, link_table, shown_at
from starward.errors import TooLarge
from starward.links import Links
from starward.matching import least_lot, matching, most
from starward.pairs import far_numbers
from starward.sightings import Frame
from starward.sky import check_sighting

MOST_STARS_TO_CHOOSE = 10


def _lot_of(sky, guides):
    """Return the lot of the guides. Raise UnknownStar for the first number in the list that is none."""
    for number in guides:
        sky.star_at(number)
    return sorted(set(guides))


def guide_need(sky, guides, attitude, sighting):
    """Return the guide need. Raise UnknownStar, InvalidAttitude, InvalidSighting."""
    lot = _lot_of(sky, guides)
    check_attitude(sky, attitude)
    check_sighting(sky, sighting)
    table, sure = Frame(sky, sighting).table_and_sure(attitude)
    rows = _both_of(sure, lot)
    return len(rows) - most(table, rows)


def _both_of(sure, lot):
    """Return the list of the sure stars that are in the lot."""
    return [number for number in sure if number in lot]


def _links_of_guides(sky, guides, one, other):
    """Return the tuple of the link table of two attitudes and the sure guides of the first one.

    Raise UnknownStar, then InvalidAttitude for the first attitude that is none.
    """
    lot = _lot_of(sky, guides)
    shown, shown_other = shown_at(sky, one, other)
    return (link_table(sky, shown, shown_other), _both_of(sure_among(sky, shown), lot))


def guide_lack(sky, guides, one, other):
    """Return the guide lack of `one` by `other`. Raise UnknownStar, then InvalidAttitude."""
    table, rows = _links_of_guides(sky, guides, one, other)
    return len(rows) - most(table, rows)


def guide_lot(sky, guides, one, other):
    """Return the least lot of sure guides of `one` that lacks most by `other`. Raise UnknownStar, InvalidAttitude."""
    table, rows = _links_of_guides(sky, guides, one, other)
    return least_lot(table, rows)


def guide_distance(sky, guides, slack):
    """Return the guide distance. Raise UnknownStar."""
    number, _, _ = _weakest(sky, _lot_of(sky, guides), slack)
    return number


def weakest(sky, guides, slack):
    """Return the first two far attitudes whose guide lack is the guide distance. Raise UnknownStar."""
    _, place, other = _weakest(sky, _lot_of(sky, guides), slack)
    every = attitudes(sky)
    return (every[4 * place], every[other])


def _weakest(sky, lot, slack):
    """Return the tuple of the guide distance and of the first two with this guide lack, a place and a number."""
    links = Links(sky)
    least = None
    for place, sure in enumerate(links.sure):
        row = links.lack_row(place, _both_of(sure, lot))
        far = far_numbers(sky.side, place, slack)
        here = min([row[number] for number in far])
        if least is None or here < least[0]:
            least = (here, place, [number for number in far if row[number] == here][0])
    return least


def are_enough(sky, guides, slack, missing, false):
    """Return True if the guides are enough, otherwise False. Raise UnknownStar."""
    return Demands(sky, slack, missing + false).are_met(_lot_of(sky, guides))


class Demands:
    """What is asked of guides at each place of a sky so that they are enough."""

    def __init__(self, sky, slack, bound):
        self._sky = sky
        self._slack = slack
        self._bound = bound
        self._links = Links(sky)

    def are_met(self, lot):
        """Return True if a lot of guides is enough, otherwise False."""
        # That guides are too few somewhere is found without links.
        if not all([len(_both_of(sure, lot)) > self._bound for sure in self._links.sure]):
            return False
        return self._are_met_at(list(range(len(self._links.sure))), lot)

    def are_met_without(self, lot, left_out):
        """Return True if a lot of guides is enough that is so with one star more."""
        # Where that star is not sure, nothing changes.
        return self._are_met_at([place for place, sure in enumerate(self._links.sure) if left_out in sure], lot)

    def _are_met_at(self, places, lot):
        """Return True if at these places each guide lack by a far attitude is above the bound."""
        for place in places:
            stars = _both_of(self._links.sure[place], lot)
            if len(stars) <= self._bound:
                return False
            row = self._links.lack_row(place, stars)
            if min([row[number] for number in far_numbers(self._sky.side, place, self._slack)]) <= self._bound:
                return False
        return True

    def needed(self, lot):
        """Return the ascending list of the guides of the lot without which it is not enough, or None if it is not."""
        found = {}
        for place, sure in enumerate(self._links.sure):
            row = self._links.lot_row(place, _both_of(sure, lot))
            for number in far_numbers(self._sky.side, place, self._slack):
                lack, part = row[number]
                if lack <= self._bound:
                    return None
                # Without a star a lack falls exactly if the star is in all parts that lack most.
                if lack == self._bound + 1:
                    for star in part:
                        found[star] = True
        return sorted(found)

    def all_tables(self):
        """Return a list of what guides are asked for, each a tuple of tuples (sure star, linked stars), each once."""
        found = {}
        for place, sure in enumerate(self._links.sure):
            tables = [self._links.tables(place, quarter, sure) for quarter in range(4)]
            for number in far_numbers(self._sky.side, place, self._slack):
                found[(tuple(sure), tables[number % 4][number // 4])] = True
        return [tuple(list(zip(sure, masks))) for sure, masks in found]


def misleading(sky, guides, one, true, missing, false):
    """Return a sighting that lets `true` be and by which `one` passes, or None if there is none.

    Raise UnknownStar, then InvalidAttitude.
    """
    table, rows = _links_of_guides(sky, guides, one, true)
    linked = matching(table, rows, [])
    if len(rows) - len(linked) > missing + false:
        return None
    shown, shown_true = shown_at(sky, one, true)
    # All stars of the true one are shown, by spots that fit guides where that can be.
    spots = [common_spot(sky, shown[guide], shown_true[star]) for guide, star in linked]
    told = [star for _, star in linked]
    spots.extend([common_spot(sky, look, look) for star, look in shown_true.items() if star not in told])
    # Of the guides that are left some may be missing; the others have false spots.
    matched = [guide for guide, _ in linked]
    spots.extend([shown[guide] for guide in [guide for guide in rows if guide not in matched][missing:]])
    return tuple(sorted(spots))


def needed_guides(sky, guides, slack, missing, false):
    """Return the lot of the guides that are needed, or None if the guides are not enough. Raise UnknownStar."""
    return Demands(sky, slack, missing + false).needed(_lot_of(sky, guides))


def thinned(sky, guides, slack, missing, false):
    """Return what is left of the guides if each one in turn is left out that can be, or None. Raise UnknownStar."""
    lot = _lot_of(sky, guides)
    demands = Demands(sky, slack, missing + false)
    if not demands.are_met(lot):
        return None
    left = lot
    for guide in lot:
        others = [number for number in left if number != guide]
        if demands.are_met_without(others, guide):
            left = others
    return left


def in_every_lot(sky, slack, missing, false):
    """Return the lot of the stars that are in every enough lot, or None if all stars are not enough."""
    return Demands(sky, slack, missing + false).needed(list(range(len(sky.stars))))


def fewest_guides(sky, slack, missing, false):
    """Return the first enough lot of the least number of stars, or None if all are not enough. Raise TooLarge."""
    if len(sky.stars) > MOST_STARS_TO_CHOOSE:
        raise TooLarge("too many stars to choose from")
    demands = Demands(sky, slack, missing + false)
    if not demands.are_met(list(range(len(sky.stars)))):
        return None
    tables = demands.all_tables()
    # Tables that showed that a lot is not enough: the next lots mostly fail by one of them, too.
    hard = []
    for many in range(len(sky.stars) + 1):
        for lot in combinations(range(len(sky.stars)), many):
            if _first_unmet(hard, lot, missing + false) is None:
                unmet = _first_unmet(tables, lot, missing + false)
                if unmet is None:
                    return list(lot)
                hard.append(unmet)
    return None


def _first_unmet(tables, lot, bound):
    """Return the first table in which the stars of the lot do not lack more than the bound, or None."""
    for table in tables:
        masks = [mask for star, mask in table if star in lot]
        if len(masks) <= bound or len(masks) - most_held(masks) <= bound:
            return table
    return None
