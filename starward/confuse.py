"""Attitudes that one sighting lets be, and papers that part two attitudes."""

from starward.attitudes import appearances, attitudes, check_attitude, check_two, sure_among
from starward.matching import lacks_more, least_lot, matching, most, turned_table


def linked(sky, one, other):
    """Return the ascending list of the tuples of two stars that are linked. Raise InvalidAttitude."""
    shown, shown_other = shown_at(sky, one, other)
    table = link_table(sky, shown, shown_other)
    return [(first, second) for first in shown for second in table[first]]


def shown_at(sky, one, other):
    """Return the tuple of what is shown at each of the two. Raise InvalidAttitude for the first that is none."""
    check_two(sky, one, other)
    return (appearances(sky, one), appearances(sky, other))


def link_table(sky, shown, shown_other):
    """Return a table with a row for each star, with the stars that are linked with it."""
    blur, glare = 2 * sky.blur, 2 * sky.glare
    table = [[] for _ in sky.stars]
    for first, (dx, dy, brightness) in shown.items():
        # Written out, not by `are_near`: over all pairs of attitudes most of the time is spent here.
        table[first] = [second for second, (x, y, bright) in shown_other.items()
                        if -blur <= dx - x <= blur and -blur <= dy - y <= blur
                        and -glare <= brightness - bright <= glare]
    return table


def lack(sky, one, other):
    """Return the lack of `one` by `other`. Raise InvalidAttitude."""
    shown, shown_other = shown_at(sky, one, other)
    return both_lacks(sky, shown, shown_other)[0]


def unlikeness(sky, one, other):
    """Return the unlikeness of two attitudes. Raise InvalidAttitude."""
    shown, shown_other = shown_at(sky, one, other)
    return max(both_lacks(sky, shown, shown_other))


def both_lacks(sky, shown, shown_other):
    """Return the tuple of the lack of the first attitude by the second one and that of the second by the first."""
    table = link_table(sky, shown, shown_other)
    sure, sure_other = sure_among(sky, shown), sure_among(sky, shown_other)
    back = turned_table(table, len(sky.stars))
    return (len(sure) - most(table, sure), len(sure_other) - most(back, sure_other))


def lacking_lot(sky, one, other):
    """Return the least lot of sure stars of `one` that lacks most by `other`. Raise InvalidAttitude."""
    shown, shown_other = shown_at(sky, one, other)
    return least_lot(link_table(sky, shown, shown_other), sure_among(sky, shown))


def couples(sky, one, other):
    """Return couples that leave out as few sure stars of each attitude as any do. Raise InvalidAttitude."""
    shown, shown_other = shown_at(sky, one, other)
    return _couples(sky, shown, shown_other)


def _couples(sky, shown, shown_other):
    """Return couples of two attitudes at which this is shown."""
    table = link_table(sky, shown, shown_other)
    return matching(table, sure_among(sky, shown), sure_among(sky, shown_other))


def are_confusable(sky, one, other, missing, false):
    """Return True if the two are confusable at the two numbers. Raise InvalidAttitude."""
    return unlikeness(sky, one, other) <= missing + false


def confusing_sighting(sky, one, other, missing, false):
    """Return a sighting that lets both be, or None if there is none. Raise InvalidAttitude."""
    if not are_confusable(sky, one, other, missing, false):
        return None
    return common_sighting(sky, one, other, missing, missing)


def common_sighting(sky, one, other, missing, missing_other):
    """Return a sighting of couples in which so many sure stars that they leave out are missing at each of the two.

    If fewer are left out, all of them are missing. Each other one has a spot of its own, which is false for the
    other attitude. Raise InvalidAttitude.
    """
    shown, shown_other = shown_at(sky, one, other)
    pairs = _couples(sky, shown, shown_other)
    spots = [common_spot(sky, shown[first], shown_other[second]) for first, second in pairs]
    spots.extend(_own_spots(sky, shown, [first for first, _ in pairs], missing))
    spots.extend(_own_spots(sky, shown_other, [second for _, second in pairs], missing_other))
    return tuple(sorted(spots))


def common_spot(sky, look, other_look):
    """Return a spot that fits both of two linked stars, told by offset and brightness."""
    # Each part is the least one that is near enough to both and that a spot can have.
    return (max(look[0] - sky.blur, other_look[0] - sky.blur, -sky.reach),
            max(look[1] - sky.blur, other_look[1] - sky.blur, -sky.reach),
            max(look[2] - sky.glare, other_look[2] - sky.glare, sky.limit))


def _own_spots(sky, shown, coupled, missing):
    """Return a spot for each sure star that is not coupled, but for the first ones, which may be missing."""
    left_out = [number for number in sure_among(sky, shown) if number not in coupled]
    return [shown[number] for number in left_out[missing:]]


def parting_paper(sky, one, other, missing, false):
    """Return the parting paper with the least lot that lacks most, or None if the two are confusable.

    Raise InvalidAttitude.
    """
    shown, shown_other = shown_at(sky, one, other)
    lacks = both_lacks(sky, shown, shown_other)
    if max(lacks) <= missing + false:
        return None
    if lacks[0] >= lacks[1]:
        return ("one", lacking_lot(sky, one, other))
    return ("other", lacking_lot(sky, other, one))


def check_parting(sky, one, other, missing, false, paper):
    """Return True if the paper is a parting paper, otherwise False. Raise InvalidAttitude."""
    shown, shown_other = shown_at(sky, one, other)
    word, lot = paper
    if word == "one":
        return lacks_more(link_table(sky, shown, shown_other), sure_among(sky, shown), lot, missing + false)
    if word == "other":
        return lacks_more(link_table(sky, shown_other, shown), sure_among(sky, shown_other), lot, missing + false)
    return False


def confusable_with(sky, one, missing, false):
    """Return the ascending list of all attitudes that are confusable with `one`. Raise InvalidAttitude."""
    check_attitude(sky, one)
    shown = appearances(sky, one)
    return [other for other in attitudes(sky)
            if max(both_lacks(sky, shown, appearances(sky, other))) <= missing + false]
