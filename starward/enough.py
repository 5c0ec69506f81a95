"""How many spots are enough: links at once, covers, and sightings that two attitudes share."""

from starward.attitudes import appearances, sure_among
from starward.confuse import both_lacks, common_spot, couples, link_table, shown_at
from starward.matching import is_ascending, lacks_more, least_lot, matching, partners, turned_table, with_most
from starward.pairs import far_pairs, unturned


def most_links(sky, one, other):
    """Return an ascending list of as many links at once as there can be. Raise InvalidAttitude."""
    shown, shown_other = shown_at(sky, one, other)
    return matching(link_table(sky, shown, shown_other), list(shown), [])


def least_cover(sky, one, other):
    """Return a least cover, a tuple of two ascending lists. Raise InvalidAttitude."""
    shown, shown_other = shown_at(sky, one, other)
    return _cover(link_table(sky, shown, shown_other), list(shown))


def _cover(table, rows):
    """Return a least cover of the links of these rows."""
    # It has as many stars as there are links at once: the rows less what the lot lacks.
    lot = least_lot(table, rows)
    return ([row for row in rows if row not in lot], partners(table, lot))


def check_cover(sky, one, other, cover):
    """Return True if the tuple of two lists is a cover, otherwise False. Raise InvalidAttitude."""
    shown, shown_other = shown_at(sky, one, other)
    return _is_cover(link_table(sky, shown, shown_other), list(shown), list(shown_other), cover)


def _is_cover(table, seen, seen_other, cover):
    """Return True if the tuple of two lists is a cover of what is seen at two attitudes, otherwise False."""
    first, second = cover
    if not (_is_lot(first, seen) and _is_lot(second, seen_other)):
        return False
    return all([column in second for row in seen if row not in first for column in table[row]])


def _is_lot(told, numbers):
    """Return True if the list is ascending, each number once, and has none but these, otherwise False."""
    return is_ascending(told) and all([number in numbers for number in told])


def most_shared(sky, one, other, missing, false):
    """Return how many spots the greatest shared sighting has, or None if there is none. Raise InvalidAttitude."""
    shown, shown_other = shown_at(sky, one, other)
    return _most_shared(sky, shown, shown_other, missing, false)


def _most_shared(sky, shown, shown_other, missing, false):
    """Return how many spots the greatest sighting shared by two attitudes has, or None if there is none."""
    if max(both_lacks(sky, shown, shown_other)) > missing + false:
        return None
    first, second = _cover(link_table(sky, shown, shown_other), list(shown))
    return _shared_spots(len(first) + len(second), false, shown, shown_other)


def _shared_spots(links, false, shown, shown_other):
    """Return how many spots a shared sighting has at most if there are at most so many links at once."""
    return false + min(links + false, len(shown), len(shown_other))


def shared_sighting(sky, one, other, missing, false):
    """Return a greatest shared sighting, or None if there is none. Raise InvalidAttitude."""
    if most_shared(sky, one, other, missing, false) is None:
        return None
    shown, shown_other = shown_at(sky, one, other)
    # Couples reach as many sure stars as can be; with more links they keep them.
    links = with_most(link_table(sky, shown, shown_other), couples(sky, one, other))
    own = _own_spots(sky, shown, [first for first, _ in links], false)
    own_other = _own_spots(sky, shown_other, [second for _, second in links], false)
    spots = [common_spot(sky, shown[first], shown_other[second]) for first, second in links]
    # What is left of the false ones for both attitudes: spots without a star, at any place.
    spots.extend([(0, 0, sky.limit)] * (false - max(len(own), len(own_other))))
    return tuple(sorted([*spots, *own, *own_other]))


def _own_spots(sky, shown, reached, most):
    """Return at most so many spots, each one for a star that is not reached, sure ones first."""
    sure = sure_among(sky, shown)
    left = [number for number in shown if number not in reached]
    ordered = [*[number for number in left if number in sure], *[number for number in left if number not in sure]]
    return [common_spot(sky, shown[number], shown[number]) for number in ordered[:most]]


def _hardest(sky, missing, false, slack):
    """Return the tuple of the most spots that two far attitudes share and the first pair that does, or (None, None)."""
    greatest, hardest = None, None
    done = {}
    for one, other in far_pairs(sky, slack):
        key = unturned(one, other)
        if key in done:
            continue
        done[key] = True
        shown, shown_other = appearances(sky, key[0]), appearances(sky, key[1])
        # However many links there are, no more spots are shared than the stars that are seen allow.
        if greatest is not None and false + min(len(shown), len(shown_other)) <= greatest:
            continue
        many = _most_shared(sky, shown, shown_other, missing, false)
        if many is not None and (greatest is None or many > greatest):
            greatest, hardest = many, (one, other)
    return (greatest, hardest)


def enough_spots(sky, missing, false, slack):
    """Return the least number of spots that no sighting shared by two far attitudes has."""
    greatest, _ = _hardest(sky, missing, false, slack)
    return 0 if greatest is None else greatest + 1


def hardest_pair(sky, missing, false, slack):
    """Return the first pair of far attitudes with the greatest shared sighting, or None if no two share any."""
    _, hardest = _hardest(sky, missing, false, slack)
    return hardest


def enough_paper(sky, missing, false, slack):
    """Return a paper for the enough spots: a dict from all far pairs to lots and covers."""
    entries = {}
    paper = {}
    for one, other in far_pairs(sky, slack):
        key = unturned(one, other)
        if key not in entries:
            entries[key] = _entry(sky, appearances(sky, key[0]), appearances(sky, key[1]), missing + false)
        word, first, second = entries[key]
        paper[(one, other)] = (word, list(first) if word == "cover" else first, list(second))
    return paper


def _entry(sky, shown, shown_other, bound):
    """Return what a paper has for two attitudes: a lot that lacks more than the bound, otherwise a least cover."""
    table = link_table(sky, shown, shown_other)
    sides = [(table, sure_among(sky, shown)), (turned_table(table, len(sky.stars)), sure_among(sky, shown_other))]
    for side, (links, sure) in enumerate(sides):
        lot = least_lot(links, sure)
        if lacks_more(links, sure, lot, bound):
            return ("lot", side, lot)
    first, second = _cover(table, list(shown))
    return ("cover", first, second)


def shows_enough(sky, missing, false, slack, number, paper):
    """Return True if the dict is a paper of enough for the number, otherwise False."""
    pairs = far_pairs(sky, slack)
    if len(paper) != len(pairs):
        return False
    links = {}
    for pair in pairs:
        key = unturned(pair[0], pair[1])
        if key not in links:
            links[key] = _seen_and_links(sky, key)
        if pair not in paper or not _is_right(sky, links[key], missing, false, number, paper[pair]):
            return False
    return True


def _seen_and_links(sky, pair):
    """Return the tuple of what is shown at each of two attitudes and the table of their links."""
    shown, shown_other = appearances(sky, pair[0]), appearances(sky, pair[1])
    return (shown, shown_other, link_table(sky, shown, shown_other))


def _is_right(sky, links, missing, false, number, entry):
    """Return True if the entry of a paper shows that two attitudes share no sighting of so many spots."""
    shown, shown_other, table = links
    word, first, second = entry
    if word == "cover":
        return (_is_cover(table, list(shown), list(shown_other), (first, second))
                and _shared_spots(len(first) + len(second), false, shown, shown_other) < number)
    if word == "lot" and first == 0:
        return lacks_more(table, sure_among(sky, shown), second, missing + false)
    if word == "lot" and first == 1:
        back = turned_table(table, len(sky.stars))
        return lacks_more(back, sure_among(sky, shown_other), second, missing + false)
    return False
