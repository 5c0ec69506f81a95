"""Skies that are sure: how unlike far attitudes are at least, and papers that show it."""

from starward.attitudes import attitudes
from starward.confuse import confusing_sighting
from starward.errors import TooLarge
from starward.links import Links
from starward.pairs import both_ways, far_behind, far_rows, holds_for_all

GREATEST_SIDE = 5


def least_distance(sky, slack):
    """Return the tuple of the distance at the slack and the first two far attitudes with this unlikeness."""
    number, place, other = _least(sky, _unlikeness_rows(sky), slack)
    every = attitudes(sky)
    return (number, every[4 * place], every[other])


def _unlikeness_rows(sky):
    """Return a list with the unlikeness of the attitude at each place and each attitude."""
    links = Links(sky)
    return [links.unlikeness(place) for place in range(sky.side * sky.side)]


def _least(sky, rows, slack):
    """Return the tuple of the distance and of the first two with this unlikeness, a place and a number."""
    least = None
    for place, row in enumerate(rows):
        far = far_behind(sky.side, place, slack)
        here = min([row[number] for number in far])
        if least is None or here < least[0]:
            least = (here, place, [number for number in far if row[number] == here][0])
    return least


def distances(sky):
    """Return the list of the distances at the slacks from 0 to half the side."""
    rows = _unlikeness_rows(sky)
    return [_least(sky, rows, slack)[0] for slack in range(sky.side // 2 + 1)]


def is_sure(sky, slack, missing, false):
    """Return True if the sky is sure, otherwise False."""
    return _first_alike(sky, slack, missing + false) is None


def _first_alike(sky, slack, bound):
    """Return the first tuple of two far attitudes whose unlikeness is at most the bound, or None."""
    links = Links(sky)
    for place in range(sky.side * sky.side):
        for other in far_behind(sky.side, place, slack):
            if links.are_alike_enough(place, other, bound):
                every = attitudes(sky)
                return (every[4 * place], every[other])
    return None


def unsure_example(sky, slack, missing, false):
    """Return the first two far attitudes that are confusable and a sighting that lets both be, or None."""
    found = _first_alike(sky, slack, missing + false)
    if found is None:
        return None
    one, other = found
    return (one, other, confusing_sighting(sky, one, other, missing, false))


def least_slack(sky, errors):
    """Return the least slack at which the distance is more than the errors, or None if there is none."""
    # From half the side on the distance does not change.
    for slack, distance in enumerate(distances(sky)):
        if distance > errors:
            return slack
    return None


def sure_paper(sky, slack, missing, false):
    """Return a dict from all far pairs to parting papers, or None if the sky is not sure. Raise TooLarge."""
    if sky.side > GREATEST_SIDE:
        raise TooLarge("the side is too great for a paper")
    if not is_sure(sky, slack, missing, false):
        return None
    links = Links(sky)
    lots = [links.lot_row(place, sure) for place, sure in enumerate(links.sure)]
    paper = {}
    for one, others, told in far_rows(sky, slack, lambda place, far: _parting_entries(lots, place, far)):
        for other, (word, lot) in zip(others, told):
            paper[(one, other)] = (word, [*lot])
    return paper


def _parting_entries(lots, place, others):
    """Return a list with what parts the attitude at the place and each of the others, from all lacks and lots."""
    entries = []
    for other in others:
        (here, there), (back, hither) = both_ways(place, other)
        lack, lot = lots[here][there]
        lack_back, lot_back = lots[back][hither]
        entries.append(("one", lot) if lack >= lack_back else ("other", lot_back))
    return entries


def check_sure(sky, slack, missing, false, paper):
    """Return True if the dict has just the far pairs and a parting paper for each of them, otherwise False."""
    links = Links(sky)
    return holds_for_all(sky, slack, paper, lambda place, other, entry: _parts(
        links, both_ways(place, other), missing + false, entry))


def _parts(links, ways, bound, entry):
    """Return True if the tuple is a parting paper of two attitudes, told both ways, otherwise False."""
    word, lot = entry
    if word == "one":
        return links.lacks_more(ways[0][0], ways[0][1], lot, bound)
    if word == "other":
        return links.lacks_more(ways[1][0], ways[1][1], lot, bound)
    return False
