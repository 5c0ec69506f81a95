"""What attitudes need for a sighting, and which ones can be."""

from starward.attitudes import appearances, are_near, attitudes, check_attitude, sure_among
from starward.matching import is_matching, lacks_more, least_lot, matching, most, turned_table
from starward.sky import check_sighting


def table_of(sky, attitude, sighting):
    """Return the table of the attitude. Raise InvalidAttitude, then InvalidSighting."""
    _check(sky, attitude, sighting)
    return _table(sky, appearances(sky, attitude), sighting)


def _check(sky, attitude, sighting):
    """Raise InvalidAttitude, then InvalidSighting."""
    check_attitude(sky, attitude)
    check_sighting(sky, sighting)


def _table(sky, shown, sighting):
    """Return the table of an attitude at which this is shown."""
    table = [[] for _ in sky.stars]
    for number, look in shown.items():
        table[number] = [place for place, spot in enumerate(sighting) if are_near(look, spot, sky.blur, sky.glare)]
    return table


def _table_and_sure(sky, attitude, sighting):
    """Return the table of the attitude and its sure stars. Nothing is checked."""
    shown = appearances(sky, attitude)
    return (_table(sky, shown, sighting), sure_among(sky, shown))


def need(sky, attitude, sighting):
    """Return what the attitude needs, a tuple. Raise InvalidAttitude, then InvalidSighting."""
    _check(sky, attitude, sighting)
    return _need_at(sky, attitude, sighting)


def _need_at(sky, attitude, sighting):
    """Return what the attitude needs. Nothing is checked."""
    table, sure = _table_and_sure(sky, attitude, sighting)
    return _need_in(table, sure, len(sighting))


def _need_in(table, sure, many):
    """Return what an attitude with this table and these sure stars needs for so many spots."""
    # The most spots that one matching has are as many as the most stars of any kind that one has.
    stars = list(range(len(table)))
    return (len(sure) - most(table, sure), many - most(table, stars))


def explanation(sky, attitude, sighting):
    """Return an explanation at what the attitude needs. Raise InvalidAttitude, then InvalidSighting."""
    _check(sky, attitude, sighting)
    table, sure = _table_and_sure(sky, attitude, sighting)
    return matching(table, sure, list(range(len(sighting))))


def can_be(sky, attitude, sighting, missing, false):
    """Return True if the attitude can be at the two numbers. Raise InvalidAttitude, then InvalidSighting."""
    return is_within(need(sky, attitude, sighting), missing, false)


def is_within(needed, missing, false):
    """Return True if neither needed number is above its bound."""
    return needed[0] <= missing and needed[1] <= false


def evidence(sky, attitude, sighting, missing, false):
    """Return evidence that the attitude can be, or cannot. Raise InvalidAttitude, then InvalidSighting."""
    _check(sky, attitude, sighting)
    table, sure = _table_and_sure(sky, attitude, sighting)
    spots = list(range(len(sighting)))
    needed = _need_in(table, sure, len(spots))
    if needed[0] > missing:
        return ("stars", least_lot(table, sure))
    if needed[1] > false:
        return ("spots", least_lot(turned_table(table, len(spots)), spots))
    return ("matching", matching(table, sure, spots))


def is_evidence(sky, attitude, sighting, missing, false, told):
    """Return True if the tuple is evidence. Raise InvalidAttitude, then InvalidSighting."""
    _check(sky, attitude, sighting)
    table, sure = _table_and_sure(sky, attitude, sighting)
    spots = list(range(len(sighting)))
    word, shown = told
    if word == "matching":
        return is_matching(table, shown) and is_within(_left_out(sure, spots, shown), missing, false)
    if word == "stars":
        return lacks_more(table, sure, shown, missing)
    return lacks_more(turned_table(table, len(spots)), spots, shown, false)


def _left_out(sure, spots, told):
    """Return the tuple of how many sure stars and how many spots a matching does not have."""
    stars = [star for star, _ in told]
    return (len([star for star in sure if star not in stars]), len(spots) - len(told))


def possible(sky, sighting, missing, false):
    """Return the ascending list of all attitudes that can be. Raise InvalidSighting."""
    return [attitude for attitude, needed in needs(sky, sighting).items() if is_within(needed, missing, false)]


def needs(sky, sighting):
    """Return a dict from all attitudes, ascending, to what they need. Raise InvalidSighting."""
    check_sighting(sky, sighting)
    return {attitude: _need_at(sky, attitude, sighting) for attitude in attitudes(sky)}


def steps(sky, sighting):
    """Return the ascending list of the steps. Raise InvalidSighting."""
    told = []
    for missing, false in sorted(list(needs(sky, sighting).values())):
        # With ascending first numbers, only a second number below all ones so far gives a new step.
        if not told or false < told[-1][1]:
            told.append((missing, false))
    return told
