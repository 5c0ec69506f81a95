"""Attitudes that see the same, and motions that leave all as it is."""

from starward.attitudes import appearances, attitudes, check_attitude, check_two, motions
from starward.places import composed, moved_star
from starward.sightings import can_be
from starward.sky import is_sighting


def sees(sky, attitude):
    """Return what the attitude sees, an ascending list. Raise InvalidAttitude."""
    check_attitude(sky, attitude)
    return sorted(list(appearances(sky, attitude).values()))


def are_alike(sky, one, other):
    """Return True if the two attitudes are alike, otherwise False. Raise InvalidAttitude."""
    return sees(sky, one) == sees(sky, other)


def alike_lots(sky):
    """Return the ascending list of the ascending lists of attitudes that are alike."""
    lots = {}
    for attitude in attitudes(sky):
        lots.setdefault(tuple(sees(sky, attitude)), []).append(attitude)
    # Each lot came in when its least attitude did.
    return list(lots.values())


def telling_sighting(sky, one, other):
    """Return a telling sighting, a tuple, or None if the attitudes are alike. Raise InvalidAttitude."""
    both = [sees(sky, one), sees(sky, other)]
    if both[0] == both[1]:
        return None
    lots = {look: _fitting_spots(sky, look) for told in both for look in told}
    parting = _parting_lot(both, lots)
    # One of them has more stars that fit a spot outside of this lot. It shows all its stars, these by such spots.
    outside = [[[spot for spot in lots[look] if spot not in parting] for look in told] for told in both]
    counts = [len([spots for spots in told if spots]) for told in outside]
    which = 0 if counts[0] > counts[1] else 1
    sighting = [spots[0] if spots else lots[look][0] for look, spots in zip(both[which], outside[which])]
    return (which, tuple(sorted(sighting)))


def _fitting_spots(sky, look):
    """Return the list of all spots that fit a star that is seen with this offset and brightness."""
    dx, dy, brightness = look
    columns = _near_parts(dx, sky.blur, -sky.reach, sky.reach)
    lines = _near_parts(dy, sky.blur, -sky.reach, sky.reach)
    brights = _near_parts(brightness, sky.glare, sky.limit, brightness + sky.glare)
    return [(x, y, bright) for x in columns for y in lines for bright in brights]


def _near_parts(part, error, least, greatest):
    """Return the list of the integers from the least to the greatest one that differ by at most the error."""
    return list(range(max(part - error, least), min(part + error, greatest) + 1))


def _parting_lot(both, lots):
    """Return a lot of spots outside of which more stars of one than of the other of two attitudes fit some spot."""
    if len(both[0]) != len(both[1]):
        return []
    # No attitude sees two stars alike. Stars with lesser lots than the least that only one sees are seen by both.
    only_one = [look for look in lots if (look in both[0]) != (look in both[1])]
    _, least = min([(len(lots[look]), look) for look in only_one])
    return lots[least]


def check_telling(sky, one, other, told):
    """Return True if the tuple is a telling sighting, otherwise False. Raise InvalidAttitude."""
    check_two(sky, one, other)
    which, sighting = told
    if not is_sighting(sky, sighting):
        return False
    can = [can_be(sky, attitude, sighting, 0, 0) for attitude in (one, other)]
    return which in (0, 1) and can[which] and not can[1 - which]


def still_motions(sky):
    """Return the ascending list of the still motions."""
    bright = {star: True for star in sky.stars if star[2] >= sky.limit - sky.glare}
    return [motion for motion in motions(sky)
            if all([moved_star(sky.side, star, motion) in bright for star in bright])]


def still_lots(sky):
    """Return the ascending list of the ascending lists of attitudes that still motions lead to one another."""
    still = still_motions(sky)
    lots = []
    placed = {}
    for attitude in attitudes(sky):
        if attitude not in placed:
            lot = sorted([composed(sky.side, attitude, motion) for motion in still])
            lots.append(lot)
            for each in lot:
                placed[each] = True
    return lots
