"""What attitudes need for a sighting, and which ones can be."""

from starward.attitudes import appearances, are_near, attitudes, check_attitude, sure_among
from starward.matching import is_matching, lacks_more, least_lot, matching, most, turned_table
from starward.sky import check_sighting


class Frame:
    """A sighting of a sky, and what attitudes need for it, each thing found once. Nothing is checked."""

    def __init__(self, sky, sighting):
        self._sky = sky
        self._sighting = sighting
        self._fitting = {}
        self._needs = {}

    def spots(self):
        """Return the ascending list of the numbers of the spots."""
        return list(range(len(self._sighting)))

    def table_and_sure(self, attitude):
        """Return the tuple of the table of the attitude and its sure stars."""
        shown = appearances(self._sky, attitude)
        table = [[] for _ in self._sky.stars]
        for number, look in shown.items():
            table[number] = list(self._spots_near(look))
        return (table, sure_among(self._sky, shown))

    def _spots_near(self, look):
        """Return the ascending list of the numbers of the spots that fit a star with this offset and brightness."""
        if look not in self._fitting:
            blur, glare = self._sky.blur, self._sky.glare
            self._fitting[look] = [number for number, spot in enumerate(self._sighting)
                                   if are_near(look, spot, blur, glare)]
        return self._fitting[look]

    def need(self, attitude):
        """Return what the attitude needs, a tuple."""
        if attitude not in self._needs:
            table, sure = self.table_and_sure(attitude)
            # The most spots that one matching has are as many as the most stars of any kind that one has.
            self._needs[attitude] = (len(sure) - most(table, sure),
                                     len(self._sighting) - most(table, list(range(len(table)))))
        return self._needs[attitude]


def frames_of(sky, sightings):
    """Return a list with the frame of each sighting; equal sightings have the same one. Nothing is checked."""
    kept = {}
    frames = []
    for sighting in sightings:
        if sighting not in kept:
            kept[sighting] = Frame(sky, sighting)
        frames.append(kept[sighting])
    return frames


def _checked_frame(sky, attitude, sighting):
    """Return the frame of the sighting. Raise InvalidAttitude, then InvalidSighting."""
    check_attitude(sky, attitude)
    check_sighting(sky, sighting)
    return Frame(sky, sighting)


def table_of(sky, attitude, sighting):
    """Return the table of the attitude. Raise InvalidAttitude, then InvalidSighting."""
    table, _ = _checked_frame(sky, attitude, sighting).table_and_sure(attitude)
    return table


def need(sky, attitude, sighting):
    """Return what the attitude needs, a tuple. Raise InvalidAttitude, then InvalidSighting."""
    return _checked_frame(sky, attitude, sighting).need(attitude)


def explanation(sky, attitude, sighting):
    """Return an explanation at what the attitude needs. Raise InvalidAttitude, then InvalidSighting."""
    frame = _checked_frame(sky, attitude, sighting)
    table, sure = frame.table_and_sure(attitude)
    return matching(table, sure, frame.spots())


def can_be(sky, attitude, sighting, missing, false):
    """Return True if the attitude can be at the two numbers. Raise InvalidAttitude, then InvalidSighting."""
    return is_within(need(sky, attitude, sighting), missing, false)


def is_within(needed, missing, false):
    """Return True if neither needed number is above its bound."""
    return needed[0] <= missing and needed[1] <= false


def evidence(sky, attitude, sighting, missing, false):
    """Return evidence that the attitude can be, or cannot. Raise InvalidAttitude, then InvalidSighting."""
    return evidence_in(_checked_frame(sky, attitude, sighting), attitude, missing, false)


def evidence_in(frame, attitude, missing, false):
    """Return evidence that the attitude can be for the sighting of the frame, or cannot."""
    table, sure = frame.table_and_sure(attitude)
    spots = frame.spots()
    needed = frame.need(attitude)
    if needed[0] > missing:
        return ("stars", least_lot(table, sure))
    if needed[1] > false:
        return ("spots", least_lot(turned_table(table, len(spots)), spots))
    return ("matching", matching(table, sure, spots))


def is_evidence(sky, attitude, sighting, missing, false, told):
    """Return True if the tuple is evidence. Raise InvalidAttitude, then InvalidSighting."""
    frame = _checked_frame(sky, attitude, sighting)
    table, sure = frame.table_and_sure(attitude)
    spots = frame.spots()
    word, shown = told
    if word == "matching":
        return is_matching(table, shown) and is_within(_left_out(sure, spots, shown), missing, false)
    if word == "stars":
        return lacks_more(table, sure, shown, missing)
    return lacks_more(turned_table(table, len(spots)), spots, shown, false)


def _left_out(sure, spots, told):
    """Return the tuple of how many sure stars and how many spots a matching does not have."""
    stars = [star for star, _ in told]
    return (len([star for star in sure if star not in stars]), len(spots) - len(told))


def possible(sky, sighting, missing, false):
    """Return the ascending list of all attitudes that can be. Raise InvalidSighting."""
    return [attitude for attitude, needed in needs(sky, sighting).items() if is_within(needed, missing, false)]


def needs(sky, sighting):
    """Return a dict from all attitudes, ascending, to what they need. Raise InvalidSighting."""
    check_sighting(sky, sighting)
    frame = Frame(sky, sighting)
    return {attitude: frame.need(attitude) for attitude in attitudes(sky)}


def steps(sky, sighting):
    """Return the ascending list of the steps. Raise InvalidSighting."""
    return least_of(list(needs(sky, sighting).values()))


def least_of(told):
    """Return the ascending list of those tuples of two numbers that have no other at most as great in both."""
    least = []
    for first, second in sorted(set(told)):
        # With ascending first numbers, only a second number below all ones so far is one of them.
        if not least or second < least[-1][1]:
            least.append((first, second))
    return least
